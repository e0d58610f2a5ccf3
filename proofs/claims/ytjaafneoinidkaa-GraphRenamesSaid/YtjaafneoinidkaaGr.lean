/- The number of components, the genus. -/
import Derived.Test.YtjaafneoinidkaaGq
import Derived.BigQuiet
import Derived.Deep.QuietTactic
namespace Go.Proofs.Ytjaafneoinidkaa
open Go.RowKit Go.Shelf Go.Proofs.Gr
attribute [local go_sem] Oper.semAt_some

/-- A table of twelve numbers. -/
def enT (t : Nat → Int) : Array Value := ((List.range 12).map fun v : Nat => Value.int .i64 (t v)).toArray
theorem enT_at (t : Nat → Int) (v : Nat) (h : v < 12) : (enT t)[v]? = some (.int .i64 (t v)) := by
  unfold enT
  rw [List.getElem?_toArray, List.getElem?_map, List.getElem?_range h]; rfl
theorem enT_set (t s : Nat → Int) (m : Nat) (z : Int) (h : ∀ v, s v = if v = m then z else t v) : (enT t).setIfInBounds m (.int .i64 z) = enT s := by
  unfold enT
  rw [List.setIfInBounds_toArray]
  congr 1
  refine List.ext_getElem (by simp) fun j h1 h2 => ?_
  rw [List.getElem_set]
  simp only [List.getElem_map, List.getElem_range]
  by_cases e : m = j
  · subst e; simp [h]
  · rw [if_neg e, h, if_neg (fun e' => e e'.symm)]
theorem enT_eq (t s : Nat → Int) (h : ∀ v, s v = t v) : enT t = enT s := by rw [show s = t from funext h]
/-- The first k have their own numbers. -/
def idT (k : Nat) : Nat → Int := fun v => if v < k then (v : Int) else 0
theorem idT_nil : enT (idT 0) = Array.replicate 12 (.int .i64 0) := by kernel_rfl
theorem idT_set (k : Nat) : (enT (idT k)).setIfInBounds k (.int .i64 (k : Int)) = enT (idT (k + 1)) := enT_set _ _ _ _ fun v => by
  unfold idT
  by_cases e : v = k
  · subst e; rw [if_pos (by omega), if_pos rfl]
  · rw [if_neg e]
    by_cases h : v < k
    · rw [if_pos h, if_pos (by omega)]
    · rw [if_neg h, if_neg (by omega)]
/-- Among the first k, those of one number get another. -/
def relT (t : Nat → Int) (p j : Int) (k : Nat) : Nat → Int := fun v => if v < k ∧ t v = j then p else t v
theorem relT_zero (t : Nat → Int) (p j : Int) : enT t = enT (relT t p j 0) := enT_eq _ _ fun v => by
  unfold relT; rw [if_neg (by omega)]
theorem relT_at (t : Nat → Int) (p j : Int) (k : Nat) : relT t p j k k = t k := by
  unfold relT; rw [if_neg (by omega)]
theorem relT_set (t : Nat → Int) (p j : Int) (k : Nat) (h : t k = j) : (enT (relT t p j k)).setIfInBounds k (.int .i64 p) = enT (relT t p j (k + 1)) := enT_set _ _ _ _ fun v => by
  unfold relT
  by_cases e : v = k
  · subst e; rw [if_pos ⟨by omega, h⟩, if_pos rfl]
  · rw [if_neg e]
    by_cases h1 : v < k ∧ t v = j
    · rw [if_pos h1, if_pos ⟨by omega, h1.2⟩]
    · rw [if_neg h1, if_neg (fun h2 => h1 ⟨by omega, h2.2⟩)]
theorem relT_skip (t : Nat → Int) (p j : Int) (k : Nat) (h : ¬ t k = j) : enT (relT t p j k) = enT (relT t p j (k + 1)) := enT_eq _ _ fun v => by
  unfold relT
  by_cases e : v = k
  · subst e; rw [if_neg (fun h2 => h h2.2), if_neg (fun h2 => h h2.2)]
  · by_cases h1 : v < k ∧ t v = j
    · rw [if_pos h1, if_pos ⟨by omega, h1.2⟩]
    · rw [if_neg h1, if_neg (fun h2 => h1 ⟨by omega, h2.2⟩)]
/-- One edge joins two components. -/
def uStep (st : (Nat → Int) × Int) (e : E) : (Nat → Int) × Int :=
  if st.1 e.a.toNat = st.1 e.b.toNat then st else (relT st.1 (st.1 e.a.toNat) (st.1 e.b.toNat) 12, st.2 - 1)
def uni (n : Int) (L : List E) : (Nat → Int) × Int := L.foldl uStep (idT 12, n)
/-- The number of components. -/
def compsU (n : Int) (L : List E) : Int := (uni n L).2
theorem uni_succ (n : Int) (L : List E) (i : Nat) (h : i < L.length) : uni n (L.take (i + 1)) = uStep (uni n (L.take i)) (eAt L i) := by
  unfold uni
  rw [List.take_succ_eq_append_getElem h, List.foldl_append, eAt_get]; rfl
theorem uni_bound (n : Int) (L : List E) (i : Nat) (h : i ≤ L.length) : n - i ≤ (uni n (L.take i)).2 ∧ (uni n (L.take i)).2 ≤ n := by
  induction i with
  | zero => simp [uni]
  | succ i ih =>
    rw [uni_succ n L i (by omega)]
    have := ih (by omega)
    unfold uStep
    split
    · omega
    · show n - ((i + 1 : Nat) : Int) ≤ (uni n (L.take i)).2 - 1 ∧ (uni n (L.take i)).2 - 1 ≤ n
      omega

set_option maxHeartbeats 12800000 in
set_option maxRecDepth 100000 in
theorem pcomponents_any (n : Int) (a : Option Addr) (cap : Nat) (L : List E) (hL : L.length ≤ 100000) (hM : Right n L) (w : World) (h : EsAt w a L) :
    Calls Try.prog 55 #[gv n a L.length cap] w (GivesN w (compsU n L)) := by
  unfold GivesN gv
  have HR : Hid (∀ i, i < L.length → 0 ≤ (eAt L i).a ∧ (eAt L i).a < 12 ∧ 0 ≤ (eAt L i).b ∧ (eAt L i).b < 12) := Lib.hid fun i hi => by
    have h1 := hM.rng (eAt L i) (by rw [← eAt_get L i hi]; exact List.getElem_mem hi)
    have h2 := hM.hi
    omega
  have HCB := Lib.hid (fun i h => uni_bound n L i h)
  have HST := Lib.hid (fun i h => uni_succ n L i h)
  have hlo := hM.lo
  have hhi := hM.hi
  have HCR : Hid (compsU n L = (uni n (L.take L.length)).2) := Lib.hid (by rw [List.take_length]; rfl)
  have HU0 : Hid (uni n (L.take 0) = (idT 12, n)) := Lib.hid rfl
  generalize compsU n L = R at *
  obtain ⟨W, hW⟩ : ∃ W, W = w.alloc (Obj.cells #[.int .i64 n, .slice a L.length cap] 24) := ⟨_, rfl⟩
  have hB0 : Below w.heap.size w W := by rw [hW]; exact (Below.refl _ w).alloc (Nat.le_refl _) _
  have hG : Blk W w.heap.size 24 #[.int .i64 n, .slice a L.length cap] := by rw [hW]; exact Blk.new _ _ _
  have hWs : W.heap.size = w.heap.size + 1 := by rw [hW]; simp
  have HWS := Lib.hid hWs
  have HW := Lib.hid hW
  have HB0 := Lib.hid hB0
  have HG := Lib.hid hG
  have HE := Lib.hid (h.keep hB0)
  have g0 : W.cell? ⟨w.heap.size, 0, none⟩ = some (.int .i64 n) := hG.cell 0
  have g1 : W.cell? ⟨w.heap.size, 1, none⟩ = some (.slice a L.length cap) := hG.cell 1
  clear hB0 hG hW hWs
  have HT0 : Hid (Blk (W.alloc (Obj.cells (Array.replicate 12 (.int .i64 0)) 91)) (w.heap.size + 1) 91 (enT (idT 0))) := Lib.hid (by rw [idT_nil, ← HWS.out]; exact Blk.new _ _ _)
  clear h hM
  go_enter Try.func55, Try.ntmps55
  go_wp2
  rw [← HW.out]
  go_loopw [11] (fun v wr => ∃ i : Nat, i ≤ 12 ∧ v = .int .i64 i ∧ Blk wr (w.heap.size + 1) 91 (enT (idT i)) ∧ Below W.heap.size W wr) (fun v _ => 12 - (intOf v).toNat)
  case atStart => exact ⟨0, by omega, rfl, HT0.out, (Below.refl _ _).alloc (Nat.le_refl _) _⟩
  case round =>
    obtain ⟨i, hi, rfl, hT, hb⟩ := hrel
    by_cases hlt : i < 12
    · have y2 : wr.frozen? ⟨w.heap.size + 1, i, none⟩ = false := hT.frozen i
      have y1 : wr.cell? ⟨w.heap.size + 1, i, none⟩ = some (.int .i64 (idT i i)) := (hT.cell i).trans (enT_at _ i hlt)
      have i1 : (i : Int) < 12 := by omega
      have i2 : (0 : Int) ≤ (i : Int) := by omega
      have HN : Hid (Blk (wr.setCell ⟨w.heap.size + 1, i, none⟩ (.int .i64 i)) (w.heap.size + 1) 91 (enT (idT (i + 1)))) := Lib.hid (by rw [← idT_set]; exact hT.set_ i _)
      have HB2 : Hid (Below W.heap.size W (wr.setCell ⟨w.heap.size + 1, i, none⟩ (.int .i64 i))) := Lib.hid (hb.setCell (p := ⟨w.heap.size + 1, i, none⟩) (Nat.le_of_eq HWS.out) _)
      clear hT hb
      go_wp2
      go_roundw
      case rel => exact ⟨i + 1, by omega, by go_num, HN.out, HB2.out⟩
      case measure => simp [intOf]; omega
    · obtain rfl : i = 12 := by omega
      have HT := Lib.hid hT
      have HBs := Lib.hid hb
      have g0' : wr.cell? ⟨w.heap.size, 0, none⟩ = some (.int .i64 n) := (HG.out.below hb HG.out.lt).cell 0
      have g1' : wr.cell? ⟨w.heap.size, 1, none⟩ = some (.slice a L.length cap) := (HG.out.below hb HG.out.lt).cell 1
      clear hT hb
      go_wp2
      rename_i ws
      clear g0' g1'
      go_loopw [5, 23] (fun u v wr => ∃ i : Nat, i ≤ L.length ∧ v = .int .i64 i ∧ u = .int .i64 (uni n (L.take i)).2 ∧ Blk wr (w.heap.size + 1) 91 (enT (uni n (L.take i)).1) ∧ Below W.heap.size W wr) (fun _ v _ => L.length - (intOf v).toNat)
      case atStart => exact ⟨0, by omega, rfl, by rw [HU0.out], by rw [HU0.out]; exact HT.out, HBs.out⟩
      case round =>
        obtain ⟨i, hi, rfl, rfl, hT, hb⟩ := hrel
        have hcb := HCB.out i hi
        by_cases hlt : i < L.length
        · have hrg := HR.out i hlt
          have hst := HST.out i hlt
          generalize uni n (L.take i) = st at *
          obtain ⟨t, c⟩ := st
          simp only at hT hcb
          obtain ⟨T, hTe⟩ : ∃ T, T = eAt L i := ⟨_, rfl⟩
          have HT := Lib.hid hTe
          have g0' : wr.cell? ⟨w.heap.size, 0, none⟩ = some (.int .i64 n) := (HG.out.below hb HG.out.lt).cell 0
          have g1' : wr.cell? ⟨w.heap.size, 1, none⟩ = some (.slice a L.length cap) := (HG.out.below hb HG.out.lt).cell 1
          obtain ⟨b1, o1, ha, q1, x1, x2, x3⟩ := (HE.out.keep hb).three i hlt
          subst ha
          rw [← hTe] at x1 x2 x3
          obtain ⟨ta, tb, tm⟩ := T
          simp only at x1 x2 x3
          have i1 : (i : Int) < ((L.length : Nat) : Int) := by omega
          have HBr := Lib.hid hb
          have HBV : Hid (Below W.heap.size W (wr.alloc (Obj.cells #[.int .i64 ta, .int .i64 tb, .int .i64 tm] 71))) := Lib.hid (hb.alloc hb.size _)
          have g2' : (wr.alloc (Obj.cells #[.int .i64 ta, .int .i64 tb, .int .i64 tm] 71)).cell? ⟨w.heap.size, 0, none⟩ = some (.int .i64 n) := (HG.out.below HBV.out HG.out.lt).cell 0
          have g3' : (wr.alloc (Obj.cells #[.int .i64 ta, .int .i64 tb, .int .i64 tm] 71)).cell? ⟨w.heap.size, 1, none⟩ = some (.slice (some ⟨b1, o1, none⟩) L.length cap) := (HG.out.below HBV.out HG.out.lt).cell 1
          clear hb hTe
          rw [← HT.out] at hrg hst
          simp only at hrg
          obtain ⟨p1, rfl⟩ : ∃ p1 : Nat, ta = p1 := ⟨ta.toNat, by omega⟩
          obtain ⟨p2, rfl⟩ : ∃ p2 : Nat, tb = p2 := ⟨tb.toNat, by omega⟩
          unfold uStep at hst
          simp only [Int.toNat_natCast] at hst
          have hTV : Blk (wr.alloc (Obj.cells #[.int .i64 (p1 : Nat), .int .i64 (p2 : Nat), .int .i64 tm] 71)) (w.heap.size + 1) 91 (enT t) := hT.alloc _
          have y1 : (wr.alloc (Obj.cells #[.int .i64 (p1 : Nat), .int .i64 (p2 : Nat), .int .i64 tm] 71)).cell? ⟨w.heap.size + 1, p1, none⟩ = some (.int .i64 (t p1)) := (hTV.cell p1).trans (enT_at t p1 (by omega))
          have y2 : (wr.alloc (Obj.cells #[.int .i64 (p1 : Nat), .int .i64 (p2 : Nat), .int .i64 tm] 71)).cell? ⟨w.heap.size + 1, p2, none⟩ = some (.int .i64 (t p2)) := (hTV.cell p2).trans (enT_at t p2 (by omega))
          have n1 : (p1 : Int) < 12 := by omega
          have n2 : (p2 : Int) < 12 := by omega
          have n3 : (0 : Int) ≤ (p1 : Int) := by omega
          have n4 : (0 : Int) ≤ (p2 : Int) := by omega
          have HTV := Lib.hid hTV
          generalize t p1 = kp at *
          generalize t p2 = jn at *
          clear hrg hT hTV
          by_cases hkj : kp = jn
          · subst hkj
            rw [if_pos rfl] at hst
            have HST2 := Lib.hid hst
            clear hst hcb
            go_wp2
            go_quiet (fail)
            go_wp2
            go_roundw
            case rel => exact ⟨i + 1, by omega, by go_num, by rw [HST2.out], by rw [HST2.out]; exact HTV.out, below_drewN HBV.out _⟩
            case measure => simp [intOf]; omega
          · rw [if_neg hkj] at hst
            have HST2 := Lib.hid hst
            have q0 : (kp == jn) = false := beq_eq_false_iff_ne.2 hkj
            have HC1 : Hid (IntKind.i64.wrap (c - 1) = c - 1) := Lib.hid (IntWalk.i64_in _ (by omega))
            clear hst hcb hkj
            go_wp2
            go_quiet (fail)
            obtain ⟨X, hX⟩ : ∃ X, (wr.alloc (Obj.cells #[.int .i64 (p1 : Nat), .int .i64 (p2 : Nat), .int .i64 tm] 71)).drewN nq = X := ⟨_, rfl⟩
            have HBX : Hid (Below W.heap.size W X) := Lib.hid (by rw [← hX]; exact below_drewN HBV.out _)
            have HTX : Hid (Blk X (w.heap.size + 1) 91 (enT t)) := Lib.hid (by rw [← hX]; exact HTV.out)
            rw [hX]
            clear hX y1 y2 n1 n2 n3 n4 x1 x2 x3 g0' g1' g2' g3'
            go_wp2
            go_loopw [38] (fun v wr => ∃ i : Nat, i ≤ 12 ∧ v = .int .i64 i ∧ Blk wr (w.heap.size + 1) 91 (enT (relT t kp jn i)) ∧ Below W.heap.size W wr) (fun v _ => 12 - (intOf v).toNat)
            case atStart => exact ⟨0, by omega, rfl, by rw [← relT_zero]; exact HTX.out, HBX.out⟩
            case round =>
              obtain ⟨k, hk, rfl, hT, hb⟩ := hrel
              by_cases hlk : k < 12
              · have y1 : wr.cell? ⟨w.heap.size + 1, k, none⟩ = some (.int .i64 (t k)) := (hT.cell k).trans ((enT_at _ k hlk).trans (by rw [relT_at]))
                have y2 : wr.frozen? ⟨w.heap.size + 1, k, none⟩ = false := hT.frozen k
                have k1 : (k : Int) < 12 := by omega
                have k2 : (0 : Int) ≤ (k : Int) := by omega
                by_cases e : t k = jn
                · have HN : Hid (Blk (wr.setCell ⟨w.heap.size + 1, k, none⟩ (.int .i64 kp)) (w.heap.size + 1) 91 (enT (relT t kp jn (k + 1)))) := Lib.hid (by rw [← relT_set t kp jn k e]; exact hT.set_ k _)
                  have HB2 : Hid (Below W.heap.size W (wr.setCell ⟨w.heap.size + 1, k, none⟩ (.int .i64 kp))) := Lib.hid (hb.setCell (p := ⟨w.heap.size + 1, k, none⟩) (Nat.le_of_eq HWS.out) _)
                  rw [e] at y1
                  clear hT hb e
                  go_wp2
                  go_roundw
                  case rel => exact ⟨k + 1, by omega, by go_num, HN.out, HB2.out⟩
                  case measure => simp [intOf]; omega
                · have HN : Hid (Blk wr (w.heap.size + 1) 91 (enT (relT t kp jn (k + 1)))) := Lib.hid (by rw [← relT_skip t kp jn k e]; exact hT)
                  have HB2 := Lib.hid hb
                  have q1 : (t k == jn) = false := beq_eq_false_iff_ne.2 e
                  generalize t k = tk at *
                  clear hT hb e
                  go_wp2
                  go_roundw
                  case rel => exact ⟨k + 1, by omega, by go_num, HN.out, HB2.out⟩
                  case measure => simp [intOf]; omega
              · obtain rfl : k = 12 := by omega
                have HN := Lib.hid hT
                have HB2 := Lib.hid hb
                have c1 := HC1.out
                clear hT hb
                go_wp2
                go_roundw
                case rel => exact ⟨i + 1, by omega, by go_num, by rw [HST2.out], by rw [HST2.out]; exact HN.out, HB2.out⟩
                case measure => simp [intOf]; omega
        · obtain rfl : i = L.length := by omega
          have HBr := Lib.hid hb
          rw [← HCR.out]
          clear hb hcb hT
          go_wp2
          go_ret
          exact ⟨rfl, HB0.out.trans (HBr.out.mono HB0.out.size)⟩
/-- The genus. -/
def genU (n : Int) (L : List E) : Int := sizeG L - n + compsU n L
set_option maxHeartbeats 12800000 in
set_option maxRecDepth 100000 in
theorem pGenus_any (n : Int) (a : Option Addr) (cap : Nat) (L : List E) (hL : L.length ≤ 100000) (w : World) (h : EsAt w a L) :
    Calls Try.prog 17 #[gv n a L.length cap] w (GivesNE w (if chkG n L = 0 then genU n L else 0) (chkG n L)) := by
  have HC := Lib.hid (fun w h => check_any n a cap L (by omega) w h)
  have HSZ : Hid (chkG n L = 0 → ∀ w, EsAt w a L → Calls Try.prog 53 #[gv n a L.length cap] w (GivesN w (sizeG L))) :=
    Lib.hid (fun h0 w h => psize_any n a cap L hL (fun e he => by have := (right_of h0).rng e he; omega) w h)
  have HCO : Hid (chkG n L = 0 → ∀ w, EsAt w a L → Calls Try.prog 55 #[gv n a L.length cap] w (GivesN w (compsU n L))) :=
    Lib.hid (fun h0 w h => pcomponents_any n a cap L hL (right_of h0) w h)
  have HGE : Hid (genU n L = sizeG L - n + compsU n L) := Lib.hid rfl
  have HBD : Hid (chkG n L = 0 → 1 ≤ n ∧ n ≤ 12 ∧ 0 ≤ sizeG L ∧ sizeG L ≤ 5000000 ∧ n - 100000 ≤ compsU n L ∧ compsU n L ≤ n) := Lib.hid fun h0 => by
    have h1 := right_of h0
    have h2 := uni_bound n L L.length (Nat.le_refl _)
    have h3 := sum_bound (f := fun e => e.m) (L := L) (fun e he => by have := h1.rng e he; omega) L.length
    rw [List.take_length] at h2
    rw [take_all] at h3
    have h4 : sizeG L = sumL (fun e => e.m) L := rfl
    have h5 : compsU n L = (uni n L).2 := rfl
    have := h1.lo
    have := h1.hi
    omega
  unfold GivesNE
  unfold GivesN gv at *
  obtain ⟨W, hW⟩ : ∃ W, W = w.alloc (Obj.cells #[.int .i64 n, .slice a L.length cap] 24) := ⟨_, rfl⟩
  have hB0 : Below w.heap.size w W := by rw [hW]; exact (Below.refl _ w).alloc (Nat.le_refl _) _
  have hG : Blk W w.heap.size 24 #[.int .i64 n, .slice a L.length cap] := by rw [hW]; exact Blk.new _ _ _
  have hWs : W.heap.size = w.heap.size + 1 := by rw [hW]; simp
  have HWS := Lib.hid hWs
  have HW := Lib.hid hW
  have HB0 := Lib.hid hB0
  have HG := Lib.hid hG
  have HE := Lib.hid (h.keep hB0)
  have g0 : W.cell? ⟨w.heap.size, 0, none⟩ = some (.int .i64 n) := hG.cell 0
  have g1 : W.cell? ⟨w.heap.size, 1, none⟩ = some (.slice a L.length cap) := hG.cell 1
  clear hB0 hG hW hWs
  generalize genU n L = GE at *
  generalize sizeG L = S at *
  generalize compsU n L = C at *
  generalize chkG n L = k at *
  clear h
  by_cases hk : k = 0
  · subst hk
    have HSZ2 := Lib.hid (HSZ.out rfl)
    have HCO2 := Lib.hid (HCO.out rfl)
    obtain ⟨b1, b2, b3, b4, b5, b6⟩ := HBD.out rfl
    have C1 : Hid (IntKind.i64.wrap (S - n) = S - n) := Lib.hid (IntWalk.i64_in _ (by omega))
    have C2 : Hid (IntKind.i64.wrap (S - n + C) = S - n + C) := Lib.hid (IntWalk.i64_in _ (by omega))
    clear b1 b2 b3 b4 b5 b6
    go_enter Try.func17, Try.ntmps17
    go_wp2_with fail
    rw [← HW.out]
    refine (HC.out _ HE.out).mono ?_
    rintro e w1 ⟨rfl, hb⟩
    have HB1 := Lib.hid (HB0.out.trans (hb.mono HB0.out.size))
    have HSW : Hid (∀ x, Below w1.heap.size w1 x → (Below w1.heap.size w1 x ∧ x.cell? ⟨w.heap.size, 0, none⟩ = some (.int .i64 n) ∧ x.cell? ⟨w.heap.size, 1, none⟩ = some (.slice a L.length cap))) := Lib.hid fun x hx => ⟨hx, (HG.out.below (hb.trans (hx.mono hb.size)) HG.out.lt).cell 0, (HG.out.below (hb.trans (hx.mono hb.size)) HG.out.lt).cell 1⟩
    have HEW := Lib.hid (HE.out.keep hb)
    clear hb
    go_wp2
    have hk2 : Below w1.heap.size w1 w1.drew := (Below.refl _ _).drew
    obtain ⟨_, f0, f1⟩ := HSW.out _ hk2
    have c1 := C1.out
    have c2 := C2.out
    go_region_held3 (fun x => Below w1.heap.size w1 x ∧ x.cell? ⟨w.heap.size, 0, none⟩ = some (.int .i64 n) ∧ x.cell? ⟨w.heap.size, 1, none⟩ = some (.slice a L.length cap))
      (first | exact HSW.out _ (by assumption) | exact HSW.out _ (Below.drew (by assumption)))
      (first | (go_at_call 53; refine (HSZ2.out _ (HEW.out.keep hk2)).mono ?_; rintro e wz ⟨rfl, hbz⟩; have hk3 := hk2.trans (hbz.mono hk2.size); clear hbz hk2; have hk2 := hk3; clear hk3) | (go_at_call 55; refine (HCO2.out _ (HEW.out.keep hk2)).mono ?_; rintro e wz ⟨rfl, hbz⟩; have hk3 := hk2.trans (hbz.mono hk2.size); clear hbz hk2; have hk2 := hk3; clear hk3))
    rename_i hHeldz
    clear hHeldz
    go_wp2
    go_ret2
    exact ⟨by rw [HGE.out]; rfl, HB1.out.trans (hk2.mono HB1.out.size)⟩
  · have q0 : (((k : Nat) : Int) != 0) = true := by rw [bne_iff_ne]; omega
    go_enter Try.func17, Try.ntmps17
    go_wp2_with fail
    rw [← HW.out]
    refine (HC.out _ HE.out).mono ?_
    rintro e w1 ⟨rfl, hb⟩
    have HB1 := Lib.hid (HB0.out.trans (hb.mono HB0.out.size))
    clear hb
    go_wp2
    go_ret2
    exact ⟨rfl, HB1.out⟩
end Go.Proofs.Ytjaafneoinidkaa
