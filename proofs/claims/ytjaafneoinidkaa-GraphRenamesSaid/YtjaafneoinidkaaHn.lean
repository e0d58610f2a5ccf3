/- The graph with other numbers of its vertices, by the reference. -/
import Derived.Test.YtjaafneoinidkaaHm
namespace Go.Proofs.Ytjaafneoinidkaa
open Go.RowKit Go.Shelf Go.Proofs.Gr
attribute [local go_sem] Oper.semAt_some

/-- The table of new numbers, filled as far as a pair of old ones. -/
def ixN (S : List Int) (x : Nat) : Nat := (ixZ S x).toNat
def partQ (L : List E) (S : List Int) (i k : Nat) : Nat → Nat → Int := fun x y => if x ≤ y ∧ (min (ixN S x) (ixN S y) < i ∨ (min (ixN S x) (ixN S y) = i ∧ max (ixN S x) (ixN S y) < k)) then betw (ixZ S x) (ixZ S y) L else 0
theorem partQ_zero (L : List E) (S : List Int) (x y : Nat) : partQ L S 0 0 x y = 0 := by unfold partQ; rw [if_neg (by omega)]
theorem betw_symm (u v : Int) (L : List E) : betw u v L = betw v u L := by unfold betw; rw [Int.min_comm, Int.max_comm]
theorem ixN_at {S : List Int} (h : ∀ j, j < S.length → nErr S.length S j = 0) {i X : Nat} (hi : i < S.length) (hX : iAt S i = (X : Int)) : ixN S X = i := by
  unfold ixN; rw [← hX, ren_ix h i hi]; rfl
theorem ixN_back {S : List Int} (h : ∀ j, j < S.length → nErr S.length S j = 0) {x : Nat} (hx : x < S.length) : iAt S (ixN S x) = x ∧ ixN S x < S.length := by
  have h1 := ixZ_mem (ren_all h x hx)
  exact ⟨h1.2.2, by unfold ixN; omega⟩
theorem partQ_set (L : List E) {S : List Int} (h : ∀ j, j < S.length → nErr S.length S j = 0) {i k X Y : Nat} (hi : i ≤ k) (hk : k < S.length) (hX : (if iAt S k < iAt S i then iAt S k else iAt S i) = (X : Int)) (hY : (if iAt S i < iAt S k then iAt S k else iAt S i) = (Y : Int)) (x y : Nat) (hx : x < S.length) (hy : y < S.length) :
    partQ L S i (k + 1) x y = if x = X ∧ y = Y then betw (i : Int) (k : Int) L else partQ L S i k x y := by
  have bx := ixN_back h hx
  have by' := ixN_back h hy
  have zx : ixZ S x = (ixN S x : Int) := by unfold ixN; have := (ixZ_mem (ren_all h x hx)).1; omega
  have zy : ixZ S y = (ixN S y : Int) := by unfold ixN; have := (ixZ_mem (ren_all h y hy)).1; omega
  unfold partQ
  rw [zx, zy]
  by_cases e : x = X ∧ y = Y
  · rw [if_pos e]
    obtain ⟨rfl, rfl⟩ := e
    by_cases h1 : iAt S k < iAt S i
    · rw [if_pos h1] at hX
      rw [if_neg (by omega)] at hY
      have e1 := ixN_at h hk hX
      have e2 := ixN_at h (by omega) hY
      rw [e1, e2, if_pos (by omega)]
      exact betw_symm _ _ _
    · rw [if_neg h1] at hX
      have hY' : iAt S k = (y : Int) := by split at hY <;> omega
      have e1 := ixN_at h (by omega) hX
      have e2 := ixN_at h hk hY'
      rw [e1, e2, if_pos (by omega)]
  · rw [if_neg e]
    by_cases h2 : x ≤ y ∧ (min (ixN S x) (ixN S y) < i ∨ (min (ixN S x) (ixN S y) = i ∧ max (ixN S x) (ixN S y) < k))
    · rw [if_pos h2, if_pos (by omega)]
    · rw [if_neg h2, if_neg]
      rintro ⟨h3, h4⟩
      refine e ?_
      have h5 : min (ixN S x) (ixN S y) = i ∧ max (ixN S x) (ixN S y) = k := by omega
      rcases Nat.le_total (ixN S x) (ixN S y) with h6 | h6
      · have e1 : ixN S x = i := by omega
        have e2 : ixN S y = k := by omega
        rw [e1] at bx
        rw [e2] at by'
        rw [bx.1, by'.1] at hX hY
        split at hX <;> split at hY <;> omega
      · have e1 : ixN S x = k := by omega
        have e2 : ixN S y = i := by omega
        rw [e1] at bx
        rw [e2] at by'
        rw [bx.1, by'.1] at hX hY
        split at hX <;> split at hY <;> omega
theorem partQ_next (L : List E) {S : List Int} (h : ∀ j, j < S.length → nErr S.length S j = 0) (i x y : Nat) (hx : x < S.length) (hy : y < S.length) : partQ L S (i + 1) (i + 1) x y = partQ L S i S.length x y := by
  have bx := ixN_back h hx
  have by' := ixN_back h hy
  unfold partQ
  by_cases h1 : x ≤ y ∧ (min (ixN S x) (ixN S y) < i ∨ (min (ixN S x) (ixN S y) = i ∧ max (ixN S x) (ixN S y) < S.length))
  · rw [if_pos h1, if_pos (by omega)]
  · rw [if_neg h1, if_neg (by omega)]
theorem relG_part (L : List E) {S : List Int} (h : ∀ j, j < S.length → nErr S.length S j = 0) : joinT (partQ L S S.length S.length) S.length S.length = relG L S :=
  joinT_congr _ _ _ _ fun a b h1 h2 h3 => by
    have bx := ixN_back h h1
    unfold partQ
    rw [if_pos ⟨h2, .inl (by omega)⟩]

set_option maxHeartbeats 12800000 in
set_option maxRecDepth 100000 in
theorem rrelabelled_any (a : Option Addr) (cap : Nat) (L : List E) (hL : L.length ≤ 100000) (hs : L.Pairwise (fun x y => ltE x y = true)) (b : Option Addr) (cs : Nat) (S : List Int) (hS : S.length ≤ 100) (hz : ∀ j, j < S.length → nErr S.length S j = 0) (w : World) (h : EsAt w a L) (hv : IsAt w b S) :
    Calls Try.prog 46 #[gv S.length a L.length cap, .slice b S.length cs] w (GivesG w S.length (relG L S)) := by
  obtain ⟨n, hn⟩ : ∃ n : Int, n = S.length := ⟨_, rfl⟩
  have HBT := Lib.hid (fun u v w h => rbetween_any n a cap L hL hs u v w h)
  have HTB := Lib.hid (fun w => rtable_any S.length hS w)
  have HJO := Lib.hid (fun v base G t hG w h => rjoined_any S.length hS v base G t hG w h)
  have HIP := Lib.hid (relG_part L hz)
  have HZ := Lib.hid hz
  have HQS0 := Lib.hid (fun (i k X Y : Nat) hi hk hX hY x y hx hy => partQ_set L hz (i := i) (k := k) (X := X) (Y := Y) hi hk hX hY x y hx hy)
  have HQN := Lib.hid (fun i x y hx hy => partQ_next L hz i x y hx hy)
  have HQ0 := Lib.hid (fun x y => partQ_zero L S x y)
  generalize relG L S = R at *
  have HN := Lib.hid hn
  rw [← hn]
  clear hz hn
  unfold GivesG at *
  unfold GivesN gv at *
  obtain ⟨W, hW⟩ : ∃ W, W = (w.alloc (Obj.cells #[.int .i64 n, .slice a L.length cap] 24)).alloc (Obj.cells #[.int .i64 0, .slice none 0 0] 24) := ⟨_, rfl⟩
  have hB0 : Below w.heap.size w W := by rw [hW]; exact ((Below.refl _ w).alloc (Nat.le_refl _) _).alloc (by simp) _
  have hG : Blk W w.heap.size 24 #[.int .i64 n, .slice a L.length cap] := by rw [hW]; exact (Blk.new _ _ _).alloc _
  have hR : Blk W (w.heap.size + 1) 24 #[.int .i64 0, .slice none 0 0] := by
    rw [hW]
    have h9 := Blk.new (w.alloc (Obj.cells #[.int .i64 n, .slice a L.length cap] 24)) 24 #[.int .i64 0, .slice none 0 0]
    rwa [World.size_alloc] at h9
  have HW := Lib.hid hW
  have HB0 := Lib.hid hB0
  have HG := Lib.hid hG
  have HR1 := Lib.hid hR
  have HE := Lib.hid (h.keep hB0)
  have HV := Lib.hid (hv.keep hB0)
  clear hB0 hG hR hW h hv
  go_enter Try.func46, Try.ntmps46
  go_wp2_with fail
  rw [← HW.out]
  rw [HN.out]
  refine (HTB.out W).mono ?_
  rintro e w1 ⟨v, G, rfl, hG, hT, hb⟩
  have HT0 : Hid (Tab w1 W.heap.size v S.length G (partQ L S 0 0)) := Lib.hid (hT.congr hG fun x y _ _ => HQ0.out x y)
  have HB1 := Lib.hid hb
  clear hT hb
  go_wp2
  go_loopw [6] (fun x wr => ∃ i : Nat, i ≤ S.length ∧ x = .int .i64 i ∧ Tab wr W.heap.size v S.length G (partQ L S i i) ∧ Below W.heap.size W wr) (fun x _ => S.length - (intOf x).toNat)
  case atStart => exact ⟨0, by omega, rfl, HT0.out, HB1.out⟩
  case round =>
    obtain ⟨i, hi, rfl, hT, hb⟩ := hrel
    have m0 : wr.cell? ⟨w.heap.size, 0, none⟩ = some (.int .i64 (S.length : Int)) := by have h9 := (HG.out.below hb HG.out.lt).cell 0; rw [HN.out] at h9; exact h9
    by_cases hlt : i < S.length
    · have i1 : (i : Int) < ((S.length : Nat) : Int) := by omega
      have i0 : (0 : Int) ≤ (i : Int) := by omega
      have HTi := Lib.hid hT
      have HBi := Lib.hid hb
      clear hT hb
      go_wp2
      go_loopw [7] (fun x wr => ∃ k : Nat, i ≤ k ∧ k ≤ S.length ∧ x = .int .i64 k ∧ Tab wr W.heap.size v S.length G (partQ L S i k) ∧ Below W.heap.size W wr) (fun x _ => S.length - (intOf x).toNat)
      case atStart => exact ⟨i, by omega, by omega, rfl, HTi.out, HBi.out⟩
      case round =>
        obtain ⟨k, hik, hk, rfl, hT, hb⟩ := hrel
        have m1 : wr.cell? ⟨w.heap.size, 0, none⟩ = some (.int .i64 (S.length : Int)) := by have h9 := (HG.out.below hb HG.out.lt).cell 0; rw [HN.out] at h9; exact h9
        by_cases hlk : k < S.length
        · have k1 : (k : Int) < ((S.length : Nat) : Int) := by omega
          have k0 : (0 : Int) ≤ (k : Int) := by omega
          have zi := nErr_rng (HZ.out i hlt)
          have zk := nErr_rng (HZ.out k hlk)
          have HQS1 := Lib.hid (fun X Y hX hY x y hx hy => HQS0.out i k X Y hik hlk hX hY x y hx hy)
          obtain ⟨X, hX⟩ : ∃ X : Nat, (if iAt S k < iAt S i then iAt S k else iAt S i) = (X : Int) := ⟨(if iAt S k < iAt S i then iAt S k else iAt S i).toNat, by split <;> omega⟩
          obtain ⟨Y, hY⟩ : ∃ Y : Nat, (if iAt S i < iAt S k then iAt S k else iAt S i) = (Y : Int) := ⟨(if iAt S i < iAt S k then iAt S k else iAt S i).toNat, by split <;> omega⟩
          have hXL : X < S.length := by split at hX <;> omega
          have hYL : Y < S.length := by split at hY <;> omega
          have HXL := Lib.hid hXL
          have HYL := Lib.hid hYL
          have HQS := Lib.hid (HQS1.out X Y hX hY)
          have X1 : (X : Int) < ((S.length : Nat) : Int) := by omega
          have Y1 : (Y : Int) < ((S.length : Nat) : Int) := by omega
          have X0 : (0 : Int) ≤ (X : Int) := by omega
          have Y0 : (0 : Int) ≤ (Y : Int) := by omega
          obtain ⟨gb, c, g, hv, q1, q2, q3, y1, y2, y3, -⟩ := hT.at2 hG X Y hXL hYL
          obtain ⟨b1, o1, rfl, q4, x1⟩ := (HV.out.keep hb).one i hlt
          obtain ⟨b1', o1', he, q5, x2⟩ := (HV.out.keep hb).one k hlk
          injection he with he
          injection he with he1 he2
          subst he1 he2
          subst hv
          have HBT2 := Lib.hid (fun w h => HBT.out (i : Int) (k : Int) w h)
          generalize betw (i : Int) (k : Int) L = B at *
          generalize iAt S i = z1 at *
          generalize iAt S k = z2 at *
          generalize partQ L S i k X Y = tv at *
          have mX : min z1 z2 = (X : Int) := by rw [← hX]; split <;> omega
          have mY : max z1 z2 = (Y : Int) := by rw [← hY]; split <;> omega
          clear hX hY
          have HTr := Lib.hid hT
          have HBr := Lib.hid hb
          have HIK := Lib.hid hik
          have HEr := Lib.hid (HE.out.keep hb)
          have HS : Hid (∀ x, Below wr.heap.size wr x → (x.cell? ⟨w.heap.size, 0, none⟩ = some (.int .i64 n) ∧ x.cell? ⟨w.heap.size, 1, none⟩ = some (.slice a L.length cap) ∧ x.cell? ⟨gb, X, none⟩ = some (.slice (some ⟨g, 0, none⟩) S.length S.length) ∧ x.cell? ⟨b1, o1 + i, none⟩ = some (.int .i64 z1) ∧ x.cell? ⟨b1, o1 + k, none⟩ = some (.int .i64 z2))) := Lib.hid fun x hx => by
            have hg := HG.out.below (HBr.out.trans (hx.mono HBr.out.size)) HG.out.lt
            exact ⟨hg.cell 0, hg.cell 1, (hx.cell (p := ⟨gb, X, none⟩) q1).trans y1, (hx.cell (p := ⟨b1, o1 + i, none⟩) q4).trans x1, (hx.cell (p := ⟨b1, o1 + k, none⟩) q4).trans x2⟩
          clear hT hb hik x1 x2 zi zk hXL hYL HQS1
          go_wp2
          have hk2 : Below wr.heap.size wr wr.drew := (Below.refl _ _).drew
          refine wp_region_late (S := fun u => Below wr.heap.size wr u) (X := [26]) (by kernel_rfl) ?_
          refine wpAnyL_pureD (i := 0) 24 (.slice (some ⟨gb, 0, none⟩) S.length c) rfl rfl (by kernel_rfl) (by kernel_rfl) (by kernel_rfl) (fun _ _ _ h => h) (Or.inl ⟨by rfl, fun u _ => ?_⟩) ?_
          · go_simp
          try simp only [Act.put, List.setIfInBounds_toArray, List.set_cons_zero, List.set_cons_succ]
          refine wpAnyL_pureD (i := 1) 25 (.slice (some ⟨b1, o1, none⟩) S.length cs) rfl rfl (by kernel_rfl) (by kernel_rfl) (by kernel_rfl) (fun _ _ _ h => h) (Or.inl ⟨by rfl, fun u _ => ?_⟩) ?_
          · go_simp
          try simp only [Act.put, List.setIfInBounds_toArray, List.set_cons_zero, List.set_cons_succ]
          refine wpAnyL_pureD (i := 2) 26 (.int .i64 (i : Int)) rfl rfl (by kernel_rfl) (by kernel_rfl) (by kernel_rfl) (fun _ _ _ h => h) (Or.inl ⟨by rfl, fun u _ => ?_⟩) ?_
          · go_simp
          try simp only [Act.put, List.setIfInBounds_toArray, List.set_cons_zero, List.set_cons_succ]
          refine wpAnyL_pureD (i := 3) 27 (.pointer (some ⟨b1, o1 + i, none⟩)) rfl rfl (by kernel_rfl) (by kernel_rfl) (by kernel_rfl) (fun _ _ _ h => h) (Or.inl ⟨by rfl, fun u _ => ?_⟩) ?_
          · go_simp
          try simp only [Act.put, List.setIfInBounds_toArray, List.set_cons_zero, List.set_cons_succ]
          refine wpAnyL_takeD (i := 4) 28 (.int .i64 z1) rfl rfl (by kernel_rfl) (by kernel_rfl) (by kernel_rfl) (by kernel_rfl) (by kernel_rfl) (fun _ _ _ h => h) hk2 (Or.inl ⟨by rfl, fun u hu => ?_⟩) ?_
          · obtain ⟨z0', z1', z2', z3', z4'⟩ := HS.out u hu
            go_simp
          try simp only [Act.put, List.setIfInBounds_toArray, List.set_cons_zero, List.set_cons_succ]
          refine wpAnyL_pureD (i := 5) 29 (.slice (some ⟨b1, o1, none⟩) S.length cs) rfl rfl (by kernel_rfl) (by kernel_rfl) (by kernel_rfl) (fun _ _ _ h => h) (Or.inl ⟨by rfl, fun u _ => ?_⟩) ?_
          · go_simp
          try simp only [Act.put, List.setIfInBounds_toArray, List.set_cons_zero, List.set_cons_succ]
          refine wpAnyL_pureD (i := 6) 30 (.int .i64 (k : Int)) rfl rfl (by kernel_rfl) (by kernel_rfl) (by kernel_rfl) (fun _ _ _ h => h) (Or.inl ⟨by rfl, fun u _ => ?_⟩) ?_
          · go_simp
          try simp only [Act.put, List.setIfInBounds_toArray, List.set_cons_zero, List.set_cons_succ]
          refine wpAnyL_pureD (i := 7) 31 (.pointer (some ⟨b1, o1 + k, none⟩)) rfl rfl (by kernel_rfl) (by kernel_rfl) (by kernel_rfl) (fun _ _ _ h => h) (Or.inl ⟨by rfl, fun u _ => ?_⟩) ?_
          · go_simp
          try simp only [Act.put, List.setIfInBounds_toArray, List.set_cons_zero, List.set_cons_succ]
          refine wpAnyL_takeD (i := 8) 32 (.int .i64 z2) rfl rfl (by kernel_rfl) (by kernel_rfl) (by kernel_rfl) (by kernel_rfl) (by kernel_rfl) (fun _ _ _ h => h) hk2 (Or.inl ⟨by rfl, fun u hu => ?_⟩) ?_
          · obtain ⟨z0', z1', z2', z3', z4'⟩ := HS.out u hu
            go_simp
          try simp only [Act.put, List.setIfInBounds_toArray, List.set_cons_zero, List.set_cons_succ]
          refine wpAnyL_pureD (i := 9) 33 (.int .i64 (X : Int)) rfl rfl (by kernel_rfl) (by kernel_rfl) (by kernel_rfl) (fun _ _ _ h => h) (Or.inl ⟨by rfl, fun u _ => ?_⟩) ?_
          · go_simp
          try simp only [Act.put, List.setIfInBounds_toArray, List.set_cons_zero, List.set_cons_succ]
          refine wpAnyL_pureD (i := 10) 34 (.pointer (some ⟨gb, X, none⟩)) rfl rfl (by kernel_rfl) (by kernel_rfl) (by kernel_rfl) (fun _ _ _ h => h) (Or.inl ⟨by rfl, fun u _ => ?_⟩) ?_
          · go_simp
          try simp only [Act.put, List.setIfInBounds_toArray, List.set_cons_zero, List.set_cons_succ]
          refine wpAnyL_takeD (i := 11) 35 (.slice (some ⟨g, 0, none⟩) S.length S.length) rfl rfl (by kernel_rfl) (by kernel_rfl) (by kernel_rfl) (by kernel_rfl) (by kernel_rfl) (fun _ _ _ h => h) hk2 (Or.inl ⟨by rfl, fun u hu => ?_⟩) ?_
          · obtain ⟨z0', z1', z2', z3', z4'⟩ := HS.out u hu
            go_simp
          try simp only [Act.put, List.setIfInBounds_toArray, List.set_cons_zero, List.set_cons_succ]
          refine wpAnyL_pureD (i := 12) 36 (.slice (some ⟨b1, o1, none⟩) S.length cs) rfl rfl (by kernel_rfl) (by kernel_rfl) (by kernel_rfl) (fun _ _ _ h => h) (Or.inl ⟨by rfl, fun u _ => ?_⟩) ?_
          · go_simp
          try simp only [Act.put, List.setIfInBounds_toArray, List.set_cons_zero, List.set_cons_succ]
          refine wpAnyL_pureD (i := 13) 37 (.int .i64 (i : Int)) rfl rfl (by kernel_rfl) (by kernel_rfl) (by kernel_rfl) (fun _ _ _ h => h) (Or.inl ⟨by rfl, fun u _ => ?_⟩) ?_
          · go_simp
          try simp only [Act.put, List.setIfInBounds_toArray, List.set_cons_zero, List.set_cons_succ]
          refine wpAnyL_pureD (i := 14) 38 (.pointer (some ⟨b1, o1 + i, none⟩)) rfl rfl (by kernel_rfl) (by kernel_rfl) (by kernel_rfl) (fun _ _ _ h => h) (Or.inl ⟨by rfl, fun u _ => ?_⟩) ?_
          · go_simp
          try simp only [Act.put, List.setIfInBounds_toArray, List.set_cons_zero, List.set_cons_succ]
          refine wpAnyL_takeD (i := 15) 39 (.int .i64 z1) rfl rfl (by kernel_rfl) (by kernel_rfl) (by kernel_rfl) (by kernel_rfl) (by kernel_rfl) (fun _ _ _ h => h) hk2 (Or.inl ⟨by rfl, fun u hu => ?_⟩) ?_
          · obtain ⟨z0', z1', z2', z3', z4'⟩ := HS.out u hu
            go_simp
          try simp only [Act.put, List.setIfInBounds_toArray, List.set_cons_zero, List.set_cons_succ]
          refine wpAnyL_pureD (i := 16) 40 (.slice (some ⟨b1, o1, none⟩) S.length cs) rfl rfl (by kernel_rfl) (by kernel_rfl) (by kernel_rfl) (fun _ _ _ h => h) (Or.inl ⟨by rfl, fun u _ => ?_⟩) ?_
          · go_simp
          try simp only [Act.put, List.setIfInBounds_toArray, List.set_cons_zero, List.set_cons_succ]
          refine wpAnyL_pureD (i := 17) 41 (.int .i64 (k : Int)) rfl rfl (by kernel_rfl) (by kernel_rfl) (by kernel_rfl) (fun _ _ _ h => h) (Or.inl ⟨by rfl, fun u _ => ?_⟩) ?_
          · go_simp
          try simp only [Act.put, List.setIfInBounds_toArray, List.set_cons_zero, List.set_cons_succ]
          refine wpAnyL_pureD (i := 18) 42 (.pointer (some ⟨b1, o1 + k, none⟩)) rfl rfl (by kernel_rfl) (by kernel_rfl) (by kernel_rfl) (fun _ _ _ h => h) (Or.inl ⟨by rfl, fun u _ => ?_⟩) ?_
          · go_simp
          try simp only [Act.put, List.setIfInBounds_toArray, List.set_cons_zero, List.set_cons_succ]
          refine wpAnyL_takeD (i := 19) 43 (.int .i64 z2) rfl rfl (by kernel_rfl) (by kernel_rfl) (by kernel_rfl) (by kernel_rfl) (by kernel_rfl) (fun _ _ _ h => h) hk2 (Or.inl ⟨by rfl, fun u hu => ?_⟩) ?_
          · obtain ⟨z0', z1', z2', z3', z4'⟩ := HS.out u hu
            go_simp
          try simp only [Act.put, List.setIfInBounds_toArray, List.set_cons_zero, List.set_cons_succ]
          refine wpAnyL_pureD (i := 20) 44 (.int .i64 (Y : Int)) rfl rfl (by kernel_rfl) (by kernel_rfl) (by kernel_rfl) (fun _ _ _ h => h) (Or.inl ⟨by rfl, fun u _ => ?_⟩) ?_
          · go_simp
          try simp only [Act.put, List.setIfInBounds_toArray, List.set_cons_zero, List.set_cons_succ]
          refine wpAnyL_takeD (i := 21) 45 (.agg #[.int .i64 n, .slice a L.length cap]) rfl rfl (by kernel_rfl) (by kernel_rfl) (by kernel_rfl) (by kernel_rfl) (by kernel_rfl) (fun _ _ _ h => h) hk2 (Or.inl ⟨by rfl, fun u hu => ?_⟩) ?_
          · obtain ⟨z0', z1', z2', z3', z4'⟩ := HS.out u hu
            go_simp
          try simp only [Act.put, List.setIfInBounds_toArray, List.set_cons_zero, List.set_cons_succ]
          refine wpAnyL_pureD (i := 22) 46 (.int .i64 (i : Int)) rfl rfl (by kernel_rfl) (by kernel_rfl) (by kernel_rfl) (fun _ _ _ h => h) (Or.inl ⟨by rfl, fun u _ => ?_⟩) ?_
          · go_simp
          try simp only [Act.put, List.setIfInBounds_toArray, List.set_cons_zero, List.set_cons_succ]
          refine wpAnyL_pureD (i := 23) 47 (.int .i64 (k : Int)) rfl rfl (by kernel_rfl) (by kernel_rfl) (by kernel_rfl) (fun _ _ _ h => h) (Or.inl ⟨by rfl, fun u _ => ?_⟩) ?_
          · go_simp
          try simp only [Act.put, List.setIfInBounds_toArray, List.set_cons_zero, List.set_cons_succ]
          refine wpAnyL_one (i := 24) (by kernel_rfl) rfl (fun K hK => ?_)
          go_simp
          go_at_call 31
          refine (HBT2.out _ (HEr.out.keep hk2)).mono ?_
          rintro e w2 ⟨rfl, hb2⟩
          have hk3 := hk2.trans (hb2.mono hk2.size)
          show K _ _
          refine hK.out _ _ (fun _ _ => hk3) ?_
          clear hK K
          have hT2 := HTr.out.keep hk3
          have hc1 : w2.cell? ⟨g, Y, none⟩ = some (.int .i64 tv) := (hk3.cell (p := ⟨g, Y, none⟩) q2).trans y2
          have hf1 : w2.frozen? ⟨g, Y, none⟩ = false := (hk3.frozen (p := ⟨g, Y, none⟩) q2).trans y3
          have HN : Hid (Tab (w2.setCell ⟨g, Y, none⟩ (.int .i64 B)) W.heap.size (.slice (some ⟨gb, 0, none⟩) S.length c) S.length G (partQ L S i (k + 1))) := Lib.hid (by
            obtain ⟨gb', c', g', hv', -, -, -, x1', -, -, hset⟩ := hT2.at2 hG X Y HXL.out HYL.out
            injection hv' with e1 e2 e3
            injection e1 with e1
            injection e1 with e1
            subst e1
            rw [((hk3.cell (p := ⟨gb, X, none⟩) q1).trans y1)] at x1'
            injection x1' with x1'
            injection x1' with e4 e5 e6
            injection e4 with e4
            injection e4 with e4
            subst e4
            exact (hset B).congr hG fun x y hx hy => by rw [HQS.out x y hx hy])
          have HBN : Hid (Below W.heap.size W (w2.setCell ⟨g, Y, none⟩ (.int .i64 B))) := Lib.hid ((HBr.out.trans (hk3.mono HBr.out.size)).setCell (p := ⟨g, Y, none⟩) q3 _)
          clear hT2 hb2 hk2 hk3 y1 y2 y3
          refine wpAnyL_one (i := 25) (by kernel_rfl) rfl (fun K hK => ?_)
          go_simp
          refine hK.out _ _ (fun _ h => h) ?_
          clear hK K
          refine wpAnyL_one (i := 26) (by kernel_rfl) rfl (fun K hK => ?_)
          go_simp
          refine hK.out _ _ (fun h => absurd (by decide) h) ?_
          clear hK K
          refine wpAnyL_done (by kernel_rfl) ?_ _
          try simp only [Act.put, List.setIfInBounds_toArray, List.set_cons_zero, List.set_cons_succ]
          go_wp2
          go_roundw
          case rel => exact ⟨k + 1, by have := HIK.out; omega, by omega, by go_num, HN.out, HBN.out⟩
          case measure => simp [intOf]; omega
        · obtain rfl : k = S.length := by omega
          have HTN := Lib.hid (hT.congr hG fun x y hx hy => HQN.out i x y hx hy)
          have HBN := Lib.hid hb
          clear hT hb m0
          go_wp2
          go_roundw
          case rel => exact ⟨i + 1, by omega, by go_num, HTN.out, HBN.out⟩
          case measure => simp [intOf]; omega
    · obtain rfl : i = S.length := by omega
      have HTr := Lib.hid hT
      have HBr := Lib.hid (HB0.out.trans (hb.mono HB0.out.size))
      have HRr := Lib.hid (HR1.out.below hb HR1.out.lt)
      clear hT hb
      go_wp2_with fail
      refine (HJO.out _ _ _ _ hG _ HTr.out).mono ?_
      rintro e w2 ⟨a2, c2, rfl, -, he2, hb2⟩
      rw [HIP.out] at he2 ⊢
      have hlt := HRr.out.lt
      have hRr : Blk w2 (w.heap.size + 1) 24 #[.int .i64 0, .slice none 0 0] := HRr.out.below hb2 HRr.out.lt
      have e0 := ownsRow_setCell_below (ownsRow_setCell_below he2 (a := ⟨w.heap.size + 1, 0, none⟩) hlt (.int .i64 (S.length : Nat))) (a := ⟨w.heap.size + 1, 1, none⟩) hlt (.slice a2 R.length c2)
      have E3 := Lib.hid (e0.mono (base' := w.heap.size) (by omega))
      obtain ⟨a', c', e1, e2⟩ := RowAt.of_own encE_len3 e0
      have E1 := Lib.hid e1
      have E2 := Lib.hid e2
      have r1 : w2.cell? ⟨w.heap.size + 1, 0, none⟩ = some (.int .i64 0) := hRr.cell 0
      have r3 : w2.frozen? ⟨w.heap.size + 1, 0, none⟩ = false := hRr.frozen 0
      have r2 : (w2.setCell ⟨w.heap.size + 1, 0, none⟩ (.int .i64 (S.length : Nat))).cell? ⟨w.heap.size + 1, 1, none⟩ = some (.slice none 0 0) := (hRr.set_ 0 (.int .i64 (S.length : Nat))).cell 1
      have r4 : (w2.setCell ⟨w.heap.size + 1, 0, none⟩ (.int .i64 (S.length : Nat))).frozen? ⟨w.heap.size + 1, 1, none⟩ = false := (hRr.set_ 0 (.int .i64 (S.length : Nat))).frozen 1
      have hRf := (hRr.set_ 0 (.int .i64 (S.length : Nat))).set_ 1 (.slice a2 R.length c2)
      have r5 : ((w2.setCell ⟨w.heap.size + 1, 0, none⟩ (.int .i64 (S.length : Nat))).setCell ⟨w.heap.size + 1, 1, none⟩ (.slice a2 R.length c2)).cell? ⟨w.heap.size + 1, 0, none⟩ = some (.int .i64 (S.length : Nat)) := hRf.cell 0
      have r6 : ((w2.setCell ⟨w.heap.size + 1, 0, none⟩ (.int .i64 (S.length : Nat))).setCell ⟨w.heap.size + 1, 1, none⟩ (.slice a2 R.length c2)).cell? ⟨w.heap.size + 1, 1, none⟩ = some (.slice a2 R.length c2) := hRf.cell 1
      have HBF : Hid (Below w.heap.size w ((w2.setCell ⟨w.heap.size + 1, 0, none⟩ (.int .i64 (S.length : Nat))).setCell ⟨w.heap.size + 1, 1, none⟩ (.slice a2 R.length c2))) := Lib.hid (((HBr.out.trans (hb2.mono HBr.out.size)).setCell (p := ⟨w.heap.size + 1, 0, none⟩) (Nat.le_succ _) _).setCell (p := ⟨w.heap.size + 1, 1, none⟩) (Nat.le_succ _) _)
      clear hb2 he2 hRr hRf e0 e1 e2 hlt
      go_wp2
      refine bodyPost_ret (v := .agg #[.int .i64 (S.length : Nat), .slice a2 R.length c2]) (by simp [results, Try.results46, go_sem, r5, r6]) rfl ?_
      injection E1.out with q1 q2 q3
      have hq := E2.out
      rw [← q1] at hq
      rw [HN.out]
      exact ⟨a2, c2, rfl, hq, E3.out, HBF.out⟩
end Go.Proofs.Ytjaafneoinidkaa
