/- The reference: the graph without a single edge. -/
import Derived.Test.YtndjjafpdiehdaaZLa
import Derived.Test.YtndjjafpdiehdaaQ15
import Derived.Test.YtndjjafpdiehdaaQ12
namespace Go.Proofs.Ytndjjafpdiehdaa
open Go.RowKit Go.Shelf Go.Proofs.Gr
attribute [local go_sem] Oper.semAt_some

/-- A list that does not lie in a block. -/
def Away (a : Option Addr) (n p : Nat) : Prop := ∀ b o, a = some ⟨b, o, none⟩ → 0 < n → b ≠ p
theorem RowAt.put {α : Type} {k : Nat} {enc : α → List Value} {w : World} {a : Option Addr} {L : List α} (h : RowAt k enc w a L) {p : Nat} (ha : Away a L.length p) (i : Nat) (v : Value) : RowAt k enc (w.setCell ⟨p, i, none⟩ v) a L := by
  intro j hj
  obtain ⟨b, o, e1, h2, h3⟩ := h j hj
  have hne := ha b o e1 (by omega)
  have hg := grown_set w p i v
  exact ⟨b, o, e1, Nat.lt_of_lt_of_le h2 hg.size, fun t ht => (cell_grown hg h2 (by simpa using hne)).trans (h3 t ht)⟩
theorem away_own {x : World} {B n c p : Nat} {t : TypeId} {z : Nat} {a : Option Addr} {xs : List Value} (h : x.ownsRow B t z (.slice a n c) n xs) (hp : p < B ∨ x.heap.size ≤ p) : Away a n p := by
  intro b o ha hn he
  have := h.lt b (by rw [ha]; simp [Value.ownBlock])
  omega
/-- Hands back a graph. -/
def GivesG1 (w : World) (m : Int) (J : List E) (e : Ending) (w' : World) : Prop := ∃ a c, e = .returned (.agg #[.int .i64 m, .slice a J.length c]) ∧ EsAt w' a J ∧ (∀ p, p < w.heap.size → Away a J.length p) ∧ Below w.heap.size w w'
theorem tail_away (x : World) (kb w0 : Nat) (m : Int) (J : List E) (a2 : Option Addr) (c2 : Nat) (he : EsAt x a2 J) (ha : Away a2 J.length kb) (hR : Blk x kb 24 #[.int .i64 0, .slice none 0 0]) :
    x.cell? ⟨kb, 0, none⟩ = some (.int .i64 0) ∧ x.frozen? ⟨kb, 0, none⟩ = false ∧ (x.setCell ⟨kb, 0, none⟩ (.int .i64 m)).cell? ⟨kb, 1, none⟩ = some (.slice none 0 0) ∧ (x.setCell ⟨kb, 0, none⟩ (.int .i64 m)).frozen? ⟨kb, 1, none⟩ = false
    ∧ ((x.setCell ⟨kb, 0, none⟩ (.int .i64 m)).setCell ⟨kb, 1, none⟩ (.slice a2 J.length c2)).cell? ⟨kb, 0, none⟩ = some (.int .i64 m) ∧ ((x.setCell ⟨kb, 0, none⟩ (.int .i64 m)).setCell ⟨kb, 1, none⟩ (.slice a2 J.length c2)).cell? ⟨kb, 1, none⟩ = some (.slice a2 J.length c2)
    ∧ EsAt ((x.setCell ⟨kb, 0, none⟩ (.int .i64 m)).setCell ⟨kb, 1, none⟩ (.slice a2 J.length c2)) a2 J ∧ (∀ w, Below w0 w x → w0 ≤ kb → Below w0 w ((x.setCell ⟨kb, 0, none⟩ (.int .i64 m)).setCell ⟨kb, 1, none⟩ (.slice a2 J.length c2)))
    ∧ Blk ((x.setCell ⟨kb, 0, none⟩ (.int .i64 m)).setCell ⟨kb, 1, none⟩ (.slice a2 J.length c2)) kb 24 #[.int .i64 m, .slice a2 J.length c2] := by
  have hRf := (hR.set_ 0 (.int .i64 m)).set_ 1 (.slice a2 J.length c2)
  exact ⟨hR.cell 0, hR.frozen 0, (hR.set_ 0 (.int .i64 m)).cell 1, (hR.set_ 0 (.int .i64 m)).frozen 1, hRf.cell 0, hRf.cell 1, (he.put ha 0 _).put ha 1 _, fun w hw hk => (hw.setCell (p := ⟨kb, 0, none⟩) hk _).setCell (p := ⟨kb, 1, none⟩) hk _, hRf⟩
set_option maxHeartbeats 12800000 in
set_option maxRecDepth 100000 in
theorem rless_any (n : Int) (a : Option Addr) (cap : Nat) (L : List E) (hL : L.length ≤ 100000) (hR : Right n L) (e : Nat) (he : e < (endsG L).length) (m : Int) (J : List E) (k : Nat) (hM : Makes n (dropP (endsG L) e) m J k) (w : World) (h : EsAt w a L) :
    Calls Try.prog 59 #[gv n a L.length cap, .int .i64 e] w (GivesG1 w m J) := by
  have HO := Lib.hid (fun w h => rothers_any n a cap L hL hR e he w h)
  obtain ⟨hJl, -, hM⟩ := hM
  have HM := Lib.hid hM
  generalize dropP (endsG L) e = Q at *
  unfold GivesG1 gv at *
  unfold GivesGE gv at *
  unfold GivesP at HO
  clear hM
  obtain ⟨W, hW⟩ : ∃ W, W = (w.alloc (Obj.cells #[.int .i64 n, .slice a L.length cap] 24)).alloc (Obj.cells #[.int .i64 0, .slice none 0 0] 24) := ⟨_, rfl⟩
  have hB0 : Below w.heap.size w W := by rw [hW]; exact ((Below.refl _ w).alloc (Nat.le_refl _) _).alloc (by simp) _
  have hG : Blk W w.heap.size 24 #[.int .i64 n, .slice a L.length cap] := by rw [hW]; exact (Blk.new _ _ _).alloc _
  have hWs : W.heap.size = w.heap.size + 2 := by rw [hW]; simp
  have hR : Blk W (w.heap.size + 1) 24 #[.int .i64 0, .slice none 0 0] := by
    rw [hW]
    have := Blk.new (w.alloc (Obj.cells #[.int .i64 n, .slice a L.length cap] 24)) 24 #[.int .i64 0, .slice none 0 0]
    rwa [World.size_alloc] at this
  have HR1 := Lib.hid hR
  have HW := Lib.hid hW
  have HWS := Lib.hid hWs
  have HB0 := Lib.hid hB0
  have HE := Lib.hid (h.keep hB0)
  have HF : Hid (∀ u, Below W.heap.size W u → u.cell? ⟨w.heap.size, 0, none⟩ = some (.int .i64 n) ∧ u.cell? ⟨w.heap.size, 1, none⟩ = some (.slice a L.length cap)) := Lib.hid fun u hu => ⟨(hG.below hu hG.lt).cell 0, (hG.below hu hG.lt).cell 1⟩
  obtain ⟨g0, g1⟩ := HF.out W (Below.refl _ _)
  clear hB0 hG hW hWs h hR
  go_enter Try.func59, Try.ntmps59
  go_wp2_with fail
  rw [← HW.out]
  clear g0 g1
  have hj0 : Below W.heap.size W W.drew := (Below.refl _ _).drew
  refine wp_region_late (S := fun u => Below W.heap.size W u) (X := []) (by kernel_rfl) ?_
  refine wpAnyL_pureD (i := 0) 8 (.pointer (some ⟨w.heap.size, 0, none⟩)) rfl rfl (by kernel_rfl) (by kernel_rfl) (by kernel_rfl) (fun _ _ _ h => h) (Or.inl ⟨by rfl, fun u _ => ?_⟩) ?_
  · go_simp
  try simp only [Act.put, List.setIfInBounds_toArray, List.set_cons_zero, List.set_cons_succ]
  refine wpAnyL_takeD (i := 1) 9 (.int .i64 n) rfl rfl (by kernel_rfl) (by kernel_rfl) (by kernel_rfl) (by kernel_rfl) (by kernel_rfl) (fun _ _ _ h => h) hj0 (Or.inl ⟨by rfl, fun u hu => ?_⟩) ?_
  · obtain ⟨t0, t1⟩ := HF.out u hu
    go_simp
  try simp only [Act.put, List.setIfInBounds_toArray, List.set_cons_zero, List.set_cons_succ]
  refine wpAnyL_takeD (i := 2) 10 (.agg #[.int .i64 n, .slice a L.length cap]) rfl rfl (by kernel_rfl) (by kernel_rfl) (by kernel_rfl) (by kernel_rfl) (by kernel_rfl) (fun _ _ _ h => h) hj0 (Or.inl ⟨by rfl, fun u hu => ?_⟩) ?_
  · obtain ⟨t0, t1⟩ := HF.out u hu
    go_simp
  try simp only [Act.put, List.setIfInBounds_toArray, List.set_cons_zero, List.set_cons_succ]
  refine wpAnyL_pureD (i := 3) 11 (.int .i64 e) rfl rfl (by kernel_rfl) (by kernel_rfl) (by kernel_rfl) (fun _ _ _ h => h) (Or.inl ⟨by rfl, fun u _ => ?_⟩) ?_
  · go_simp
  try simp only [Act.put, List.setIfInBounds_toArray, List.set_cons_zero, List.set_cons_succ]
  obtain ⟨x0, hx0⟩ : ∃ x0, x0 = W.drew := ⟨_, rfl⟩
  rw [← hx0] at hj0 ⊢
  have hjx0 := hj0
  clear hx0 hj0
  refine wpAnyL_some (rs := [4, 9]) (by kernel_rfl) (by simp) (fun i' hi' => ?_)
  rcases (show i' = 4 ∨ i' = 9 by simpa using hi') with rfl | rfl
  · refine ⟨_, rfl, fun K hK => ?_⟩
    go_simp
    go_at_call 87
    refine (HO.out _ (HE.out.keep hjx0)).mono ?_
    rintro r x1 ⟨a1, c1, rfl, hpsx1, hb⟩
    have hjx1 := hjx0.trans (hb.mono hjx0.size)
    show K _ _
    refine hK.out _ _ (fun _ => hjx1) ?_
    clear hK K hb hjx0
    try simp only [Act.put, List.setIfInBounds_toArray, List.set_cons_zero, List.set_cons_succ]
    refine wpAnyL_some (rs := [5, 9]) (by kernel_rfl) (by simp) (fun i' hi' => ?_)
    rcases (show i' = 5 ∨ i' = 9 by simpa using hi') with rfl | rfl
    · refine ⟨_, rfl, fun K hK => ?_⟩
      go_simp
      go_at_call 65
      refine (HM.out _ _ _ hpsx1).mono ?_
      rintro r x2 ⟨a2, c2, rfl, hesx2, hex2, hb⟩
      have hjx2 := hjx1.trans (hb.mono hjx1.size)
      have hfr : ∀ p, p < W.heap.size → Away a2 J.length p := fun p hp => away_own hex2 (.inl (by have := hjx1.size; omega))
      have hak := hfr (w.heap.size + 1) (by have := HWS.out; omega)
      show K _ _
      refine hK.out _ _ (fun _ => hjx2) ?_
      clear hK K hb hjx1 hpsx1
      try simp only [Act.put, List.setIfInBounds_toArray, List.set_cons_zero, List.set_cons_succ]
      refine wpAnyL_pureD (i := 6) 7 (.tuple #[(.agg #[.int .i64 m, .slice a2 J.length c2]), .int .i64 (k : Nat)]) rfl rfl (by kernel_rfl) (by kernel_rfl) (by kernel_rfl) (fun _ _ _ h => h) (Or.inl ⟨by rfl, fun u _ => ?_⟩) ?_
      · go_simp
      try simp only [Act.put, List.setIfInBounds_toArray, List.set_cons_zero, List.set_cons_succ]
      refine wpAnyL_pureD (i := 7) 14 (.agg #[.int .i64 m, .slice a2 J.length c2]) rfl rfl (by kernel_rfl) (by kernel_rfl) (by kernel_rfl) (fun _ _ _ h => h) (Or.inl ⟨by rfl, fun u _ => ?_⟩) ?_
      · go_simp
      try simp only [Act.put, List.setIfInBounds_toArray, List.set_cons_zero, List.set_cons_succ]
      refine wpAnyL_pureD (i := 8) 15 (.int .i64 (k : Nat)) rfl rfl (by kernel_rfl) (by kernel_rfl) (by kernel_rfl) (fun _ _ _ h => h) (Or.inl ⟨by rfl, fun u _ => ?_⟩) ?_
      · go_simp
      try simp only [Act.put, List.setIfInBounds_toArray, List.set_cons_zero, List.set_cons_succ]
      refine wpAnyL_one (i := 9) (by kernel_rfl) rfl (fun K hK => ?_)
      go_simp
      have hjx3 : Below W.heap.size W (x2.alloc (Obj.cells #[.int .i64 0, .slice none 0 0] 24)) := hjx2.alloc hjx2.size _
      refine hK.out _ _ (fun _ _ => hjx3) ?_
      clear hK K
      obtain ⟨x3, hV⟩ : ∃ X, X = x2.alloc (Obj.cells #[.int .i64 0, .slice none 0 0] 24) := ⟨_, rfl⟩
      obtain ⟨p, hp⟩ : ∃ p, p = x2.heap.size := ⟨_, rfl⟩
      have hbxx3 : Blk x3 p 24 #[.int .i64 0, .slice none 0 0] := by rw [hV, hp]; exact Blk.new _ _ _
      have hpW : W.heap.size ≤ p := by rw [hp]; exact hjx2.size
      have hesx3 : EsAt x3 a2 J := by rw [hV]; exact hesx2.keep ((Below.refl _ _).alloc (Nat.le_refl _) _)
      have hap : Away a2 J.length p := away_own hex2 (.inr (Nat.le_of_eq hp.symm))
      rw [← hV] at hjx3 ⊢
      rw [← hp]
      clear hV hp hjx2 hesx2 hex2
      try simp only [Act.put, List.setIfInBounds_toArray, List.set_cons_zero, List.set_cons_succ]
      obtain ⟨s1, s3, s2, s4, -, -, hes, hjf, hbf⟩ := tail_away x3 p W.heap.size m J a2 c2 hesx3 hap hbxx3
      have hj := hjf W hjx3 hpW
      refine wpAnyL_one (i := 10) (by kernel_rfl) rfl (fun K hK => ?_)
      go_simp
      refine hK.out _ _ (fun _ _ => hj) ?_
      clear hK K s1 s2 s3 s4 hjf hap hesx3 hbxx3 hjx3
      try simp only [Act.put, List.setIfInBounds_toArray, List.set_cons_zero, List.set_cons_succ]
      refine wpAnyL_pureD (i := 11) 6 (.int .i64 (k : Nat)) rfl rfl (by kernel_rfl) (by kernel_rfl) (by kernel_rfl) (fun _ _ _ h => h) (Or.inl ⟨by rfl, fun u _ => ?_⟩) ?_
      · go_simp
      try simp only [Act.put, List.setIfInBounds_toArray, List.set_cons_zero, List.set_cons_succ]
      refine wpAnyL_done (by kernel_rfl) ?_ _
      try simp only [Act.put, List.setIfInBounds_toArray, List.set_cons_zero, List.set_cons_succ]
      obtain ⟨y, hy⟩ : ∃ y, y = ((x3.setCell ⟨p, 0, none⟩ (.int .i64 m)).setCell ⟨p, 1, none⟩ (.slice a2 J.length c2)) := ⟨_, rfl⟩
      rw [← hy] at hes hj hbf ⊢
      clear hy
      have z0 : y.cell? ⟨p, 0, none⟩ = some (.int .i64 m) := hbf.cell 0
      have z1 : y.cell? ⟨p, 1, none⟩ = some (.slice a2 J.length c2) := hbf.cell 1
      have hRr : Blk y (w.heap.size + 1) 24 #[.int .i64 0, .slice none 0 0] := HR1.out.below hj HR1.out.lt
      obtain ⟨r1, r3, r2, r4, r5, r6, hes2, hbf2, -⟩ := tail_away y (w.heap.size + 1) w.heap.size m J a2 c2 hes hak hRr
      have HES := Lib.hid hes2
      have HFR : Hid (∀ p, p < w.heap.size → Away a2 J.length p) := Lib.hid fun p hp => hfr p (by have := HWS.out; omega)
      have HBF := Lib.hid (hbf2 w (HB0.out.trans (hj.mono HB0.out.size)) (by omega))
      clear hRr hes2 hbf2 hes hj hbf hak hpW hfr
      go_wp2
      refine bodyPost_ret (v := .agg #[.int .i64 m, .slice a2 J.length c2]) (by simp [results, Try.results59, go_sem, r5, r6]) rfl ?_
      exact ⟨a2, c2, rfl, HES.out, HFR.out, HBF.out⟩
    · refine ⟨_, rfl, fun K hK => ?_⟩
      go_simp
      have hjx4 : Below W.heap.size W (x1.alloc (Obj.cells #[.int .i64 0, .slice none 0 0] 24)) := hjx1.alloc hjx1.size _
      refine hK.out _ _ (fun _ => hjx4) ?_
      clear hK K
      obtain ⟨x4, hV⟩ : ∃ X, X = x1.alloc (Obj.cells #[.int .i64 0, .slice none 0 0] 24) := ⟨_, rfl⟩
      obtain ⟨p, hp⟩ : ∃ p, p = x1.heap.size := ⟨_, rfl⟩
      have hbxx4 : Blk x4 p 24 #[.int .i64 0, .slice none 0 0] := by rw [hV, hp]; exact Blk.new _ _ _
      have hpW : W.heap.size ≤ p := by rw [hp]; exact hjx1.size
      have hpsx4 : PsAt x4 a1 Q := by rw [hV]; exact hpsx1.keep ((Below.refl _ _).alloc (Nat.le_refl _) _)
      rw [← hV] at hjx4 ⊢
      rw [← hp]
      clear hV hp hjx1 hpsx1
      try simp only [Act.put, List.setIfInBounds_toArray, List.set_cons_zero, List.set_cons_succ]
      refine wpAnyL_one (i := 5) (by kernel_rfl) rfl (fun K hK => ?_)
      go_simp
      go_at_call 65
      refine (HM.out _ _ _ hpsx4).mono ?_
      rintro r x5 ⟨a2, c2, rfl, hesx5, hex5, hb⟩
      have hjx5 := hjx4.trans (hb.mono hjx4.size)
      have hfr : ∀ p, p < W.heap.size → Away a2 J.length p := fun p hp => away_own hex5 (.inl (by have := hjx4.size; omega))
      have hak := hfr (w.heap.size + 1) (by have := HWS.out; omega)
      have hbxx5 := hbxx4.below hb hbxx4.lt
      have hap : Away a2 J.length p := away_own hex5 (.inl hbxx4.lt)
      show K _ _
      refine hK.out _ _ (fun _ _ => hjx5) ?_
      clear hK K hb hjx4 hpsx4 hbxx4
      try simp only [Act.put, List.setIfInBounds_toArray, List.set_cons_zero, List.set_cons_succ]
      refine wpAnyL_pureD (i := 6) 7 (.tuple #[(.agg #[.int .i64 m, .slice a2 J.length c2]), .int .i64 (k : Nat)]) rfl rfl (by kernel_rfl) (by kernel_rfl) (by kernel_rfl) (fun _ _ _ h => h) (Or.inl ⟨by rfl, fun u _ => ?_⟩) ?_
      · go_simp
      try simp only [Act.put, List.setIfInBounds_toArray, List.set_cons_zero, List.set_cons_succ]
      refine wpAnyL_pureD (i := 7) 14 (.agg #[.int .i64 m, .slice a2 J.length c2]) rfl rfl (by kernel_rfl) (by kernel_rfl) (by kernel_rfl) (fun _ _ _ h => h) (Or.inl ⟨by rfl, fun u _ => ?_⟩) ?_
      · go_simp
      try simp only [Act.put, List.setIfInBounds_toArray, List.set_cons_zero, List.set_cons_succ]
      refine wpAnyL_pureD (i := 8) 15 (.int .i64 (k : Nat)) rfl rfl (by kernel_rfl) (by kernel_rfl) (by kernel_rfl) (fun _ _ _ h => h) (Or.inl ⟨by rfl, fun u _ => ?_⟩) ?_
      · go_simp
      try simp only [Act.put, List.setIfInBounds_toArray, List.set_cons_zero, List.set_cons_succ]
      obtain ⟨s1, s3, s2, s4, -, -, hes, hjf, hbf⟩ := tail_away x5 p W.heap.size m J a2 c2 hesx5 hap hbxx5
      have hj := hjf W hjx5 hpW
      refine wpAnyL_one (i := 10) (by kernel_rfl) rfl (fun K hK => ?_)
      go_simp
      refine hK.out _ _ (fun _ _ => hj) ?_
      clear hK K s1 s2 s3 s4 hjf hap hesx5 hbxx5 hjx5 hex5
      try simp only [Act.put, List.setIfInBounds_toArray, List.set_cons_zero, List.set_cons_succ]
      refine wpAnyL_pureD (i := 11) 6 (.int .i64 (k : Nat)) rfl rfl (by kernel_rfl) (by kernel_rfl) (by kernel_rfl) (fun _ _ _ h => h) (Or.inl ⟨by rfl, fun u _ => ?_⟩) ?_
      · go_simp
      try simp only [Act.put, List.setIfInBounds_toArray, List.set_cons_zero, List.set_cons_succ]
      refine wpAnyL_done (by kernel_rfl) ?_ _
      try simp only [Act.put, List.setIfInBounds_toArray, List.set_cons_zero, List.set_cons_succ]
      obtain ⟨y, hy⟩ : ∃ y, y = ((x5.setCell ⟨p, 0, none⟩ (.int .i64 m)).setCell ⟨p, 1, none⟩ (.slice a2 J.length c2)) := ⟨_, rfl⟩
      rw [← hy] at hes hj hbf ⊢
      clear hy
      have z0 : y.cell? ⟨p, 0, none⟩ = some (.int .i64 m) := hbf.cell 0
      have z1 : y.cell? ⟨p, 1, none⟩ = some (.slice a2 J.length c2) := hbf.cell 1
      have hRr : Blk y (w.heap.size + 1) 24 #[.int .i64 0, .slice none 0 0] := HR1.out.below hj HR1.out.lt
      obtain ⟨r1, r3, r2, r4, r5, r6, hes2, hbf2, -⟩ := tail_away y (w.heap.size + 1) w.heap.size m J a2 c2 hes hak hRr
      have HES := Lib.hid hes2
      have HFR : Hid (∀ p, p < w.heap.size → Away a2 J.length p) := Lib.hid fun p hp => hfr p (by have := HWS.out; omega)
      have HBF := Lib.hid (hbf2 w (HB0.out.trans (hj.mono HB0.out.size)) (by omega))
      clear hRr hes2 hbf2 hes hj hbf hak hpW hfr
      go_wp2
      refine bodyPost_ret (v := .agg #[.int .i64 m, .slice a2 J.length c2]) (by simp [results, Try.results59, go_sem, r5, r6]) rfl ?_
      exact ⟨a2, c2, rfl, HES.out, HFR.out, HBF.out⟩
  · refine ⟨_, rfl, fun K hK => ?_⟩
    go_simp
    have hjx6 : Below W.heap.size W (x0.alloc (Obj.cells #[.int .i64 0, .slice none 0 0] 24)) := hjx0.alloc hjx0.size _
    refine hK.out _ _ (fun _ => hjx6) ?_
    clear hK K
    obtain ⟨x6, hV⟩ : ∃ X, X = x0.alloc (Obj.cells #[.int .i64 0, .slice none 0 0] 24) := ⟨_, rfl⟩
    obtain ⟨p, hp⟩ : ∃ p, p = x0.heap.size := ⟨_, rfl⟩
    have hbxx6 : Blk x6 p 24 #[.int .i64 0, .slice none 0 0] := by rw [hV, hp]; exact Blk.new _ _ _
    have hpW : W.heap.size ≤ p := by rw [hp]; exact hjx0.size
    rw [← hV] at hjx6 ⊢
    rw [← hp]
    clear hV hp hjx0
    try simp only [Act.put, List.setIfInBounds_toArray, List.set_cons_zero, List.set_cons_succ]
    refine wpAnyL_one (i := 4) (by kernel_rfl) rfl (fun K hK => ?_)
    go_simp
    go_at_call 87
    refine (HO.out _ (HE.out.keep hjx6)).mono ?_
    rintro r x7 ⟨a1, c1, rfl, hpsx7, hb⟩
    have hjx7 := hjx6.trans (hb.mono hjx6.size)
    have hbxx7 := hbxx6.below hb hbxx6.lt
    show K _ _
    refine hK.out _ _ (fun _ _ => hjx7) ?_
    clear hK K hb hjx6 hbxx6
    try simp only [Act.put, List.setIfInBounds_toArray, List.set_cons_zero, List.set_cons_succ]
    refine wpAnyL_one (i := 5) (by kernel_rfl) rfl (fun K hK => ?_)
    go_simp
    go_at_call 65
    refine (HM.out _ _ _ hpsx7).mono ?_
    rintro r x8 ⟨a2, c2, rfl, hesx8, hex8, hb⟩
    have hjx8 := hjx7.trans (hb.mono hjx7.size)
    have hfr : ∀ p, p < W.heap.size → Away a2 J.length p := fun p hp => away_own hex8 (.inl (by have := hjx7.size; omega))
    have hak := hfr (w.heap.size + 1) (by have := HWS.out; omega)
    have hbxx8 := hbxx7.below hb hbxx7.lt
    have hap : Away a2 J.length p := away_own hex8 (.inl hbxx7.lt)
    show K _ _
    refine hK.out _ _ (fun _ _ => hjx8) ?_
    clear hK K hb hjx7 hpsx7 hbxx7
    try simp only [Act.put, List.setIfInBounds_toArray, List.set_cons_zero, List.set_cons_succ]
    refine wpAnyL_pureD (i := 6) 7 (.tuple #[(.agg #[.int .i64 m, .slice a2 J.length c2]), .int .i64 (k : Nat)]) rfl rfl (by kernel_rfl) (by kernel_rfl) (by kernel_rfl) (fun _ _ _ h => h) (Or.inl ⟨by rfl, fun u _ => ?_⟩) ?_
    · go_simp
    try simp only [Act.put, List.setIfInBounds_toArray, List.set_cons_zero, List.set_cons_succ]
    refine wpAnyL_pureD (i := 7) 14 (.agg #[.int .i64 m, .slice a2 J.length c2]) rfl rfl (by kernel_rfl) (by kernel_rfl) (by kernel_rfl) (fun _ _ _ h => h) (Or.inl ⟨by rfl, fun u _ => ?_⟩) ?_
    · go_simp
    try simp only [Act.put, List.setIfInBounds_toArray, List.set_cons_zero, List.set_cons_succ]
    refine wpAnyL_pureD (i := 8) 15 (.int .i64 (k : Nat)) rfl rfl (by kernel_rfl) (by kernel_rfl) (by kernel_rfl) (fun _ _ _ h => h) (Or.inl ⟨by rfl, fun u _ => ?_⟩) ?_
    · go_simp
    try simp only [Act.put, List.setIfInBounds_toArray, List.set_cons_zero, List.set_cons_succ]
    obtain ⟨s1, s3, s2, s4, -, -, hes, hjf, hbf⟩ := tail_away x8 p W.heap.size m J a2 c2 hesx8 hap hbxx8
    have hj := hjf W hjx8 hpW
    refine wpAnyL_one (i := 10) (by kernel_rfl) rfl (fun K hK => ?_)
    go_simp
    refine hK.out _ _ (fun _ _ => hj) ?_
    clear hK K s1 s2 s3 s4 hjf hap hesx8 hbxx8 hjx8 hex8
    try simp only [Act.put, List.setIfInBounds_toArray, List.set_cons_zero, List.set_cons_succ]
    refine wpAnyL_pureD (i := 11) 6 (.int .i64 (k : Nat)) rfl rfl (by kernel_rfl) (by kernel_rfl) (by kernel_rfl) (fun _ _ _ h => h) (Or.inl ⟨by rfl, fun u _ => ?_⟩) ?_
    · go_simp
    try simp only [Act.put, List.setIfInBounds_toArray, List.set_cons_zero, List.set_cons_succ]
    refine wpAnyL_done (by kernel_rfl) ?_ _
    try simp only [Act.put, List.setIfInBounds_toArray, List.set_cons_zero, List.set_cons_succ]
    obtain ⟨y, hy⟩ : ∃ y, y = ((x8.setCell ⟨p, 0, none⟩ (.int .i64 m)).setCell ⟨p, 1, none⟩ (.slice a2 J.length c2)) := ⟨_, rfl⟩
    rw [← hy] at hes hj hbf ⊢
    clear hy
    have z0 : y.cell? ⟨p, 0, none⟩ = some (.int .i64 m) := hbf.cell 0
    have z1 : y.cell? ⟨p, 1, none⟩ = some (.slice a2 J.length c2) := hbf.cell 1
    have hRr : Blk y (w.heap.size + 1) 24 #[.int .i64 0, .slice none 0 0] := HR1.out.below hj HR1.out.lt
    obtain ⟨r1, r3, r2, r4, r5, r6, hes2, hbf2, -⟩ := tail_away y (w.heap.size + 1) w.heap.size m J a2 c2 hes hak hRr
    have HES := Lib.hid hes2
    have HFR : Hid (∀ p, p < w.heap.size → Away a2 J.length p) := Lib.hid fun p hp => hfr p (by have := HWS.out; omega)
    have HBF := Lib.hid (hbf2 w (HB0.out.trans (hj.mono HB0.out.size)) (by omega))
    clear hRr hes2 hbf2 hes hj hbf hak hpW hfr
    go_wp2
    refine bodyPost_ret (v := .agg #[.int .i64 m, .slice a2 J.length c2]) (by simp [results, Try.results59, go_sem, r5, r6]) rfl ?_
    exact ⟨a2, c2, rfl, HES.out, HFR.out, HBF.out⟩
end Go.Proofs.Ytndjjafpdiehdaa
