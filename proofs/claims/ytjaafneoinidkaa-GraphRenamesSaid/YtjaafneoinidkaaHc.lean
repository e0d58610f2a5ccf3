/- The graph made from ends, by the reference. -/
import Derived.Test.YtjaafneoinidkaaHb
namespace Go.Proofs.Ytjaafneoinidkaa
open Go.RowKit Go.Shelf Go.Proofs.Gr
attribute [local go_sem] Oper.semAt_some

/-- The lesser and the greater end. -/
def mnP (p : Int × Int) : Int := if p.2 < p.1 then p.2 else p.1
def mxP (p : Int × Int) : Int := if p.1 < p.2 then p.2 else p.1
/-- How often the first pairs join two vertices. -/
def cntT (P : List (Int × Int)) : Nat → Nat → Nat → Int
  | 0 => fun _ _ => 0
  | i + 1 => fun x y => if x = (mnP (pAt P i)).toNat ∧ y = (mxP (pAt P i)).toNat then cntT P i x y + 1 else cntT P i x y
theorem cntT_le (P : List (Int × Int)) (i x y : Nat) : 0 ≤ cntT P i x y ∧ cntT P i x y ≤ i := by
  induction i with
  | zero => simp [cntT]
  | succ i ih =>
    show 0 ≤ (if x = (mnP (pAt P i)).toNat ∧ y = (mxP (pAt P i)).toNat then cntT P i x y + 1 else cntT P i x y) ∧ (if x = (mnP (pAt P i)).toNat ∧ y = (mxP (pAt P i)).toNat then cntT P i x y + 1 else cntT P i x y) ≤ ((i + 1 : Nat) : Int)
    split <;> omega
def pErr (n : Int) (P : List (Int × Int)) (i : Nat) : Nat := if isV n (pAt P i).1 = true ∧ isV n (pAt P i).2 = true then 0 else 2
set_option maxHeartbeats 12800000 in
set_option maxRecDepth 100000 in
theorem rmake_ok (n : Nat) (hn0 : 1 ≤ n) (hn : n ≤ 12) (b : Option Addr) (cp : Nat) (P : List (Int × Int)) (hP : P.length ≤ 4096) (w : World) (hp : PsAt w b P) :
    Calls Try.prog 24 #[.int .i64 n, .slice b P.length cp] w (fun e w' => ∃ k, GivesGE w (if k = 0 then n else 0) (if k = 0 then joinT (cntT P P.length) n n else []) k e w' ∧
      ((k = 2 ∧ ∃ j, j < P.length ∧ pErr n P j ≠ 0) ∨ (k = 5 ∧ (∀ j, j < P.length → pErr n P j = 0) ∧ ∃ x y, x < n ∧ y < n ∧ 50 < cntT P P.length x y) ∨ (k = 0 ∧ (∀ j, j < P.length → pErr n P j = 0) ∧ ∀ x y, x < n → y < n → cntT P P.length x y ≤ 50))) := by
  have HTB := Lib.hid (fun w => rtable_any n (by omega) w)
  have HJO := Lib.hid (fun v base G t hG w h => rjoined_any n (by omega) v base G t hG w h)
  have HCS : Hid (∀ i x y, cntT P (i + 1) x y = if x = (mnP (pAt P i)).toNat ∧ y = (mxP (pAt P i)).toNat then cntT P i x y + 1 else cntT P i x y) := Lib.hid fun i x y => rfl
  have HCL := Lib.hid (fun i x y => cntT_le P i x y)
  have HC0 : Hid (∀ x y, cntT P 0 x y = 0) := Lib.hid fun x y => rfl
  unfold GivesGE
  unfold GivesG gv at *
  obtain ⟨W, hW⟩ : ∃ W, W = w.alloc (Obj.cells #[.int .i64 0, .slice none 0 0] 24) := ⟨_, rfl⟩
  have hB0 : Below w.heap.size w W := by rw [hW]; exact (Below.refl _ w).alloc (Nat.le_refl _) _
  have hR : Blk W w.heap.size 24 #[.int .i64 0, .slice none 0 0] := by rw [hW]; exact Blk.new _ _ _
  have HW := Lib.hid hW
  have HB0 := Lib.hid hB0
  have HR1 := Lib.hid hR
  have HPs := Lib.hid (hp.keep hB0)
  have a1 : decide ((n : Int) < 1) = false := decide_eq_false (by omega)
  have a2 : decide (12 < (n : Int)) = false := decide_eq_false (by omega)
  have a3 : decide (4096 < ((P.length : Nat) : Int)) = false := decide_eq_false (by omega)
  clear hB0 hR hW hp
  go_enter Try.func24, Try.ntmps24
  go_wp2_with fail
  rw [← HW.out]
  refine (HTB.out W).mono ?_
  rintro e w1 ⟨v, G, rfl, hG, hT, hb⟩
  have HT0 : Hid (Tab w1 W.heap.size v n G (cntT P 0)) := Lib.hid (hT.congr hG fun x y _ _ => HC0.out x y)
  have HB1 := Lib.hid hb
  clear hT hb a1 a2 a3
  go_wp2
  go_loopw [7] (fun x wr => ∃ i : Nat, i ≤ P.length ∧ x = .int .i64 i ∧ (∀ j, j < i → pErr n P j = 0) ∧ Tab wr W.heap.size v n G (cntT P i) ∧ Below W.heap.size W wr) (fun x _ => P.length - (intOf x).toNat)
  case atStart => exact ⟨0, by omega, rfl, fun j hj => by omega, HT0.out, HB1.out⟩
  case round =>
    obtain ⟨i, hi, rfl, hz, hT, hb⟩ := hrel
    have HZ := Lib.hid hz
    by_cases hlt : i < P.length
    · obtain ⟨b1, o1, rfl, q1, x1, x2⟩ := (HPs.out.keep hb).two i hlt
      have HEr : Hid (pErr n P i = if isV n (pAt P i).1 = true ∧ isV n (pAt P i).2 = true then 0 else 2) := Lib.hid rfl
      have HC1 := Lib.hid (fun x y => HCS.out i x y)
      have hcl := HCL.out i
      generalize hTp : pAt P i = T at *
      obtain ⟨ta, tb⟩ := T
      simp only at x1 x2
      have i1 : (i : Int) < ((P.length : Nat) : Int) := by omega
      have i0 : (0 : Int) ≤ (i : Int) := by omega
      have HTr := Lib.hid hT
      have HBr := Lib.hid hb
      clear hTp hz hT hb
      by_cases hok : (0 ≤ ta ∧ ta < n) ∧ (0 ≤ tb ∧ tb < n)
      · have HE0 : Hid (pErr n P i = 0) := Lib.hid (by rw [HEr.out, if_pos]; simp [isV]; omega)
        obtain ⟨p, hp⟩ : ∃ p : Nat, (if tb < ta then tb else ta) = (p : Int) := ⟨(if tb < ta then tb else ta).toNat, by split <;> omega⟩
        obtain ⟨q, hq⟩ : ∃ q : Nat, (if ta < tb then tb else ta) = (q : Int) := ⟨(if ta < tb then tb else ta).toNat, by split <;> omega⟩
        have hpn : p < n := by split at hp <;> omega
        have hqn : q < n := by split at hq <;> omega
        have HM : Hid (mnP (ta, tb) = p ∧ mxP (ta, tb) = q) := Lib.hid ⟨hp, hq⟩
        obtain ⟨gb, c, g, hv, q2, q3, q4, y1, y2, y3, hset⟩ := HTr.out.at2 hG p q hpn hqn
        subst hv
        have hcb := hcl p q
        have w1' : IntKind.i64.wrap (cntT P i p q + 1) = cntT P i p q + 1 := IntWalk.i64_in _ (by omega)
        have HN : Hid (Tab (wr.setCell ⟨g, q, none⟩ (.int .i64 (cntT P i p q + 1))) W.heap.size (.slice (some ⟨gb, 0, none⟩) n c) n G (cntT P (i + 1))) := Lib.hid ((hset _).congr hG fun x y _ _ => by
          rw [HC1.out, HM.out.1, HM.out.2, Int.toNat_natCast, Int.toNat_natCast]
          by_cases e : x = p ∧ y = q
          · rw [if_pos e, if_pos e, e.1, e.2]
          · rw [if_neg e, if_neg e])
        have HBN : Hid (Below W.heap.size W (wr.setCell ⟨g, q, none⟩ (.int .i64 (cntT P i p q + 1)))) := Lib.hid (HBr.out.setCell (p := ⟨g, q, none⟩) q4 _)
        generalize cntT P i p q = cv at *
        have a1 : decide (ta < 0) = false := decide_eq_false (by omega)
        have a2 : decide ((n : Int) ≤ ta) = false := decide_eq_false (by omega)
        have a3 : decide (tb < 0) = false := decide_eq_false (by omega)
        have a4 : decide ((n : Int) ≤ tb) = false := decide_eq_false (by omega)
        have p1 : (p : Int) < (n : Int) := by omega
        have p0 : (0 : Int) ≤ (p : Int) := by omega
        have q1' : (q : Int) < (n : Int) := by omega
        have q0' : (0 : Int) ≤ (q : Int) := by omega
        have HNX : Hid (∀ j, j < i + 1 → pErr n P j = 0) := Lib.hid (fun j hj => by
          by_cases e : j = i
          · subst e; exact HE0.out
          · exact HZ.out j (by omega))
        clear hset hcb hcl hok
        go_wp2
        go_quiet (fail)
        go_wp2
        go_roundw
        case rel => exact ⟨i + 1, by omega, by go_num, HNX.out, ⟨HN.out.own, HN.out.row, HN.out.srt⟩, (below_drewN HBr.out _).setCell (p := ⟨g, q, none⟩) q4 _⟩
        case measure => simp [intOf]; omega
      · have HE2 : Hid (pErr n P i ≠ 0) := Lib.hid (by rw [HEr.out, if_neg]; omega; simp [isV]; omega)
        by_cases h1 : ta < 0
        · have a1 : decide (ta < 0) = true := decide_eq_true h1
          have HLT := Lib.hid hlt
          clear hok hcl
          go_wp2
          go_quiet (fail)
          have hbq : Below W.heap.size W (wr.drewN nq) := below_drewN HBr.out nq
          have hRr : Blk (wr.drewN nq) w.heap.size 24 #[.int .i64 0, .slice none 0 0] := HR1.out.below hbq HR1.out.lt
          have r1 : (wr.drewN nq).cell? ⟨w.heap.size, 0, none⟩ = some (.int .i64 0) := hRr.cell 0
          have r3 : (wr.drewN nq).frozen? ⟨w.heap.size, 0, none⟩ = false := hRr.frozen 0
          have r2 : ((wr.drewN nq).setCell ⟨w.heap.size, 0, none⟩ (.int .i64 0)).cell? ⟨w.heap.size, 1, none⟩ = some (.slice none 0 0) := (hRr.set_ 0 (.int .i64 0)).cell 1
          have r4 : ((wr.drewN nq).setCell ⟨w.heap.size, 0, none⟩ (.int .i64 0)).frozen? ⟨w.heap.size, 1, none⟩ = false := (hRr.set_ 0 (.int .i64 0)).frozen 1
          have hRf := (hRr.set_ 0 (.int .i64 0)).set_ 1 (.slice none 0 0)
          have r5 : (((wr.drewN nq).setCell ⟨w.heap.size, 0, none⟩ (.int .i64 0)).setCell ⟨w.heap.size, 1, none⟩ (.slice none 0 0)).cell? ⟨w.heap.size, 0, none⟩ = some (.int .i64 0) := hRf.cell 0
          have r6 : (((wr.drewN nq).setCell ⟨w.heap.size, 0, none⟩ (.int .i64 0)).setCell ⟨w.heap.size, 1, none⟩ (.slice none 0 0)).cell? ⟨w.heap.size, 1, none⟩ = some (.slice none 0 0) := hRf.cell 1
          have HBF : Hid (Below w.heap.size w (((wr.drewN nq).setCell ⟨w.heap.size, 0, none⟩ (.int .i64 0)).setCell ⟨w.heap.size, 1, none⟩ (.slice none 0 0))) := Lib.hid (((HB0.out.trans (hbq.mono HB0.out.size)).setCell (p := ⟨w.heap.size, 0, none⟩) (Nat.le_refl _) _).setCell (p := ⟨w.heap.size, 1, none⟩) (Nat.le_refl _) _)
          clear hRr hRf
          clear hbq
          go_wp2
          refine bodyPost_ret (v := .tuple #[.agg #[.int .i64 0, .slice none 0 0], .int .i64 2]) (by simp [results, Try.results24, go_sem, r5, r6]) rfl ?_
          exact ⟨2, ⟨none, 0, rfl, RowAt.nil _ _ _ _, World.ownsRow_nil _ _ _ _, HBF.out⟩, Or.inl ⟨rfl, i, HLT.out, HE2.out⟩⟩
        · skip
          by_cases h2 : (n : Int) ≤ ta
          · have a1 : decide (ta < 0) = false := decide_eq_false h1
            have a2 : decide ((n : Int) ≤ ta) = true := decide_eq_true h2
            have HLT := Lib.hid hlt
            clear hok hcl
            go_wp2
            go_quiet (fail)
            have hbq : Below W.heap.size W (wr.drewN nq) := below_drewN HBr.out nq
            have hRr : Blk (wr.drewN nq) w.heap.size 24 #[.int .i64 0, .slice none 0 0] := HR1.out.below hbq HR1.out.lt
            have r1 : (wr.drewN nq).cell? ⟨w.heap.size, 0, none⟩ = some (.int .i64 0) := hRr.cell 0
            have r3 : (wr.drewN nq).frozen? ⟨w.heap.size, 0, none⟩ = false := hRr.frozen 0
            have r2 : ((wr.drewN nq).setCell ⟨w.heap.size, 0, none⟩ (.int .i64 0)).cell? ⟨w.heap.size, 1, none⟩ = some (.slice none 0 0) := (hRr.set_ 0 (.int .i64 0)).cell 1
            have r4 : ((wr.drewN nq).setCell ⟨w.heap.size, 0, none⟩ (.int .i64 0)).frozen? ⟨w.heap.size, 1, none⟩ = false := (hRr.set_ 0 (.int .i64 0)).frozen 1
            have hRf := (hRr.set_ 0 (.int .i64 0)).set_ 1 (.slice none 0 0)
            have r5 : (((wr.drewN nq).setCell ⟨w.heap.size, 0, none⟩ (.int .i64 0)).setCell ⟨w.heap.size, 1, none⟩ (.slice none 0 0)).cell? ⟨w.heap.size, 0, none⟩ = some (.int .i64 0) := hRf.cell 0
            have r6 : (((wr.drewN nq).setCell ⟨w.heap.size, 0, none⟩ (.int .i64 0)).setCell ⟨w.heap.size, 1, none⟩ (.slice none 0 0)).cell? ⟨w.heap.size, 1, none⟩ = some (.slice none 0 0) := hRf.cell 1
            have HBF : Hid (Below w.heap.size w (((wr.drewN nq).setCell ⟨w.heap.size, 0, none⟩ (.int .i64 0)).setCell ⟨w.heap.size, 1, none⟩ (.slice none 0 0))) := Lib.hid (((HB0.out.trans (hbq.mono HB0.out.size)).setCell (p := ⟨w.heap.size, 0, none⟩) (Nat.le_refl _) _).setCell (p := ⟨w.heap.size, 1, none⟩) (Nat.le_refl _) _)
            clear hRr hRf
            clear hbq
            go_wp2
            refine bodyPost_ret (v := .tuple #[.agg #[.int .i64 0, .slice none 0 0], .int .i64 2]) (by simp [results, Try.results24, go_sem, r5, r6]) rfl ?_
            exact ⟨2, ⟨none, 0, rfl, RowAt.nil _ _ _ _, World.ownsRow_nil _ _ _ _, HBF.out⟩, Or.inl ⟨rfl, i, HLT.out, HE2.out⟩⟩
          · skip
            by_cases h3 : tb < 0
            · have a1 : decide (ta < 0) = false := decide_eq_false h1
              have a2 : decide ((n : Int) ≤ ta) = false := decide_eq_false h2
              have a3 : decide (tb < 0) = true := decide_eq_true h3
              have HLT := Lib.hid hlt
              clear hok hcl
              go_wp2
              go_quiet (fail)
              have hbq : Below W.heap.size W (wr.drewN nq) := below_drewN HBr.out nq
              have hRr : Blk (wr.drewN nq) w.heap.size 24 #[.int .i64 0, .slice none 0 0] := HR1.out.below hbq HR1.out.lt
              have r1 : (wr.drewN nq).cell? ⟨w.heap.size, 0, none⟩ = some (.int .i64 0) := hRr.cell 0
              have r3 : (wr.drewN nq).frozen? ⟨w.heap.size, 0, none⟩ = false := hRr.frozen 0
              have r2 : ((wr.drewN nq).setCell ⟨w.heap.size, 0, none⟩ (.int .i64 0)).cell? ⟨w.heap.size, 1, none⟩ = some (.slice none 0 0) := (hRr.set_ 0 (.int .i64 0)).cell 1
              have r4 : ((wr.drewN nq).setCell ⟨w.heap.size, 0, none⟩ (.int .i64 0)).frozen? ⟨w.heap.size, 1, none⟩ = false := (hRr.set_ 0 (.int .i64 0)).frozen 1
              have hRf := (hRr.set_ 0 (.int .i64 0)).set_ 1 (.slice none 0 0)
              have r5 : (((wr.drewN nq).setCell ⟨w.heap.size, 0, none⟩ (.int .i64 0)).setCell ⟨w.heap.size, 1, none⟩ (.slice none 0 0)).cell? ⟨w.heap.size, 0, none⟩ = some (.int .i64 0) := hRf.cell 0
              have r6 : (((wr.drewN nq).setCell ⟨w.heap.size, 0, none⟩ (.int .i64 0)).setCell ⟨w.heap.size, 1, none⟩ (.slice none 0 0)).cell? ⟨w.heap.size, 1, none⟩ = some (.slice none 0 0) := hRf.cell 1
              have HBF : Hid (Below w.heap.size w (((wr.drewN nq).setCell ⟨w.heap.size, 0, none⟩ (.int .i64 0)).setCell ⟨w.heap.size, 1, none⟩ (.slice none 0 0))) := Lib.hid (((HB0.out.trans (hbq.mono HB0.out.size)).setCell (p := ⟨w.heap.size, 0, none⟩) (Nat.le_refl _) _).setCell (p := ⟨w.heap.size, 1, none⟩) (Nat.le_refl _) _)
              clear hRr hRf
              clear hbq
              go_wp2
              refine bodyPost_ret (v := .tuple #[.agg #[.int .i64 0, .slice none 0 0], .int .i64 2]) (by simp [results, Try.results24, go_sem, r5, r6]) rfl ?_
              exact ⟨2, ⟨none, 0, rfl, RowAt.nil _ _ _ _, World.ownsRow_nil _ _ _ _, HBF.out⟩, Or.inl ⟨rfl, i, HLT.out, HE2.out⟩⟩
            · skip
              have a1 : decide (ta < 0) = false := decide_eq_false h1
              have a2 : decide ((n : Int) ≤ ta) = false := decide_eq_false h2
              have a3 : decide (tb < 0) = false := decide_eq_false h3
              have a4 : decide ((n : Int) ≤ tb) = true := decide_eq_true (by omega)
              have HLT := Lib.hid hlt
              clear hok hcl
              go_wp2
              go_quiet (fail)
              have hbq : Below W.heap.size W (wr.drewN nq) := below_drewN HBr.out nq
              have hRr : Blk (wr.drewN nq) w.heap.size 24 #[.int .i64 0, .slice none 0 0] := HR1.out.below hbq HR1.out.lt
              have r1 : (wr.drewN nq).cell? ⟨w.heap.size, 0, none⟩ = some (.int .i64 0) := hRr.cell 0
              have r3 : (wr.drewN nq).frozen? ⟨w.heap.size, 0, none⟩ = false := hRr.frozen 0
              have r2 : ((wr.drewN nq).setCell ⟨w.heap.size, 0, none⟩ (.int .i64 0)).cell? ⟨w.heap.size, 1, none⟩ = some (.slice none 0 0) := (hRr.set_ 0 (.int .i64 0)).cell 1
              have r4 : ((wr.drewN nq).setCell ⟨w.heap.size, 0, none⟩ (.int .i64 0)).frozen? ⟨w.heap.size, 1, none⟩ = false := (hRr.set_ 0 (.int .i64 0)).frozen 1
              have hRf := (hRr.set_ 0 (.int .i64 0)).set_ 1 (.slice none 0 0)
              have r5 : (((wr.drewN nq).setCell ⟨w.heap.size, 0, none⟩ (.int .i64 0)).setCell ⟨w.heap.size, 1, none⟩ (.slice none 0 0)).cell? ⟨w.heap.size, 0, none⟩ = some (.int .i64 0) := hRf.cell 0
              have r6 : (((wr.drewN nq).setCell ⟨w.heap.size, 0, none⟩ (.int .i64 0)).setCell ⟨w.heap.size, 1, none⟩ (.slice none 0 0)).cell? ⟨w.heap.size, 1, none⟩ = some (.slice none 0 0) := hRf.cell 1
              have HBF : Hid (Below w.heap.size w (((wr.drewN nq).setCell ⟨w.heap.size, 0, none⟩ (.int .i64 0)).setCell ⟨w.heap.size, 1, none⟩ (.slice none 0 0))) := Lib.hid (((HB0.out.trans (hbq.mono HB0.out.size)).setCell (p := ⟨w.heap.size, 0, none⟩) (Nat.le_refl _) _).setCell (p := ⟨w.heap.size, 1, none⟩) (Nat.le_refl _) _)
              clear hRr hRf
              clear hbq
              go_wp2
              refine bodyPost_ret (v := .tuple #[.agg #[.int .i64 0, .slice none 0 0], .int .i64 2]) (by simp [results, Try.results24, go_sem, r5, r6]) rfl ?_
              exact ⟨2, ⟨none, 0, rfl, RowAt.nil _ _ _ _, World.ownsRow_nil _ _ _ _, HBF.out⟩, Or.inl ⟨rfl, i, HLT.out, HE2.out⟩⟩
    · obtain rfl : i = P.length := by omega
      obtain ⟨t, ht⟩ : ∃ t : Nat → Nat → Int, t = cntT P P.length := ⟨_, rfl⟩
      rw [← ht] at hT
      have HTE := Lib.hid ht
      have HTS := Lib.hid hT
      have HBS := Lib.hid hb
      clear hT hb hz ht
      go_wp2
      go_loopw [10] (fun z wr => ∃ x : Nat, x ≤ n ∧ z = .int .i64 x ∧ (∀ a b, a < x → b < n → t a b ≤ 50) ∧ Tab wr W.heap.size v n G t ∧ Below W.heap.size W wr) (fun z _ => n - (intOf z).toNat)
      case atStart => exact ⟨0, by omega, rfl, fun a b ha => by omega, HTS.out, HBS.out⟩
      case round =>
        obtain ⟨x, hx, rfl, hl, hT, hb⟩ := hrel
        by_cases hlx : x < n
        · have x1 : (x : Int) < (n : Int) := by omega
          have x0 : (0 : Int) ≤ (x : Int) := by omega
          have HLS := Lib.hid hl
          have HTx := Lib.hid hT
          have HBx := Lib.hid hb
          clear hT hb hl
          go_wp2
          go_loopw [11] (fun z wr => ∃ y : Nat, y ≤ n ∧ z = .int .i64 y ∧ (∀ b, b < y → t x b ≤ 50) ∧ Tab wr W.heap.size v n G t ∧ Below W.heap.size W wr) (fun z _ => n - (intOf z).toNat)
          case atStart => exact ⟨0, by omega, rfl, fun b hb => by omega, HTx.out, HBx.out⟩
          case round =>
            obtain ⟨y, hy, rfl, hl, hT, hb⟩ := hrel
            by_cases hly : y < n
            · obtain ⟨gb, c, g, hv, q2, q3, q4, y1, y2, -, -⟩ := hT.at2 hG x y hlx hly
              have HLY := Lib.hid hl
              have HTy := Lib.hid hT
              have HBy := Lib.hid hb
              have j1 : (y : Int) < (n : Int) := by omega
              have j0 : (0 : Int) ≤ (y : Int) := by omega
              subst hv
              by_cases h50 : 50 < t x y
              · have HBIG : Hid (∃ x y, x < n ∧ y < n ∧ 50 < t x y) := Lib.hid ⟨x, y, hlx, hly, h50⟩
                generalize t x y = z at *
                have hRr : Blk wr w.heap.size 24 #[.int .i64 0, .slice none 0 0] := HR1.out.below hb HR1.out.lt
                have r1 : wr.cell? ⟨w.heap.size, 0, none⟩ = some (.int .i64 0) := hRr.cell 0
                have r3 : wr.frozen? ⟨w.heap.size, 0, none⟩ = false := hRr.frozen 0
                have r2 : (wr.setCell ⟨w.heap.size, 0, none⟩ (.int .i64 0)).cell? ⟨w.heap.size, 1, none⟩ = some (.slice none 0 0) := (hRr.set_ 0 (.int .i64 0)).cell 1
                have r4 : (wr.setCell ⟨w.heap.size, 0, none⟩ (.int .i64 0)).frozen? ⟨w.heap.size, 1, none⟩ = false := (hRr.set_ 0 (.int .i64 0)).frozen 1
                have hRf := (hRr.set_ 0 (.int .i64 0)).set_ 1 (.slice none 0 0)
                have r5 : ((wr.setCell ⟨w.heap.size, 0, none⟩ (.int .i64 0)).setCell ⟨w.heap.size, 1, none⟩ (.slice none 0 0)).cell? ⟨w.heap.size, 0, none⟩ = some (.int .i64 0) := hRf.cell 0
                have r6 : ((wr.setCell ⟨w.heap.size, 0, none⟩ (.int .i64 0)).setCell ⟨w.heap.size, 1, none⟩ (.slice none 0 0)).cell? ⟨w.heap.size, 1, none⟩ = some (.slice none 0 0) := hRf.cell 1
                have HBF : Hid (Below w.heap.size w ((wr.setCell ⟨w.heap.size, 0, none⟩ (.int .i64 0)).setCell ⟨w.heap.size, 1, none⟩ (.slice none 0 0))) := Lib.hid (((HB0.out.trans (hb.mono HB0.out.size)).setCell (p := ⟨w.heap.size, 0, none⟩) (Nat.le_refl _) _).setCell (p := ⟨w.heap.size, 1, none⟩) (Nat.le_refl _) _)
                clear hRr hRf
                clear hb hl hT
                go_wp2
                refine bodyPost_ret (v := .tuple #[.agg #[.int .i64 0, .slice none 0 0], .int .i64 5]) (by simp [results, Try.results24, go_sem, r5, r6]) rfl ?_
                exact ⟨5, ⟨none, 0, rfl, RowAt.nil _ _ _ _, World.ownsRow_nil _ _ _ _, HBF.out⟩, Or.inr (Or.inl ⟨rfl, HZ.out, by rw [← HTE.out]; exact HBIG.out⟩)⟩
              · have HLN : Hid (∀ b, b < y + 1 → t x b ≤ 50) := Lib.hid fun b hb => by
                  by_cases e : b = y
                  · subst e; omega
                  · exact HLY.out b (by omega)
                generalize t x y = z at *
                clear hb hl hT
                go_wp2
                go_roundw
                case rel => exact ⟨y + 1, by omega, by go_num, HLN.out, HTy.out, HBy.out⟩
                case measure => simp [intOf]; omega
            · obtain rfl : y = n := by omega
              have HLN : Hid (∀ a b, a < x + 1 → b < y → t a b ≤ 50) := Lib.hid fun a b ha hb => by
                by_cases e : a = x
                · subst e; exact hl b hb
                · exact HLS.out a b (by omega) hb
              have HTy := Lib.hid hT
              have HBy := Lib.hid hb
              clear hb hl hT
              go_wp2
              go_roundw
              case rel => exact ⟨x + 1, by omega, by go_num, HLN.out, HTy.out, HBy.out⟩
              case measure => simp [intOf]; omega
        · obtain rfl : x = n := by omega
          have HLX := Lib.hid hl
          have HTr := Lib.hid hT
          have HBr := Lib.hid hb
          have HRr := Lib.hid (HR1.out.below hb HR1.out.lt)
          clear hT hb hl
          go_wp2_with fail
          refine (HJO.out _ _ _ _ hG _ HTr.out).mono ?_
          rintro e w2 ⟨a2, c2, rfl, -, he2, hb2⟩
          generalize hMM : joinT t x x = M at *
          have hlt := HRr.out.lt
          have e0 := ownsRow_setCell_below (ownsRow_setCell_below he2 (a := ⟨w.heap.size, 0, none⟩) hlt (.int .i64 (x : Nat))) (a := ⟨w.heap.size, 1, none⟩) hlt (.slice a2 M.length c2)
          have E3 := Lib.hid (e0.mono (base' := w.heap.size) (by omega))
          obtain ⟨a', c', e1, e2⟩ := RowAt.of_own encE_len3 e0
          have E1 := Lib.hid e1
          have E2 := Lib.hid e2
          have hbW : Below W.heap.size W w2 := HBr.out.trans (hb2.mono HBr.out.size)
          have hRr : Blk w2 w.heap.size 24 #[.int .i64 0, .slice none 0 0] := HR1.out.below hbW HR1.out.lt
          have r1 : w2.cell? ⟨w.heap.size, 0, none⟩ = some (.int .i64 0) := hRr.cell 0
          have r3 : w2.frozen? ⟨w.heap.size, 0, none⟩ = false := hRr.frozen 0
          have r2 : (w2.setCell ⟨w.heap.size, 0, none⟩ (.int .i64 x)).cell? ⟨w.heap.size, 1, none⟩ = some (.slice none 0 0) := (hRr.set_ 0 (.int .i64 x)).cell 1
          have r4 : (w2.setCell ⟨w.heap.size, 0, none⟩ (.int .i64 x)).frozen? ⟨w.heap.size, 1, none⟩ = false := (hRr.set_ 0 (.int .i64 x)).frozen 1
          have hRf := (hRr.set_ 0 (.int .i64 x)).set_ 1 (.slice a2 M.length c2)
          have r5 : ((w2.setCell ⟨w.heap.size, 0, none⟩ (.int .i64 x)).setCell ⟨w.heap.size, 1, none⟩ (.slice a2 M.length c2)).cell? ⟨w.heap.size, 0, none⟩ = some (.int .i64 x) := hRf.cell 0
          have r6 : ((w2.setCell ⟨w.heap.size, 0, none⟩ (.int .i64 x)).setCell ⟨w.heap.size, 1, none⟩ (.slice a2 M.length c2)).cell? ⟨w.heap.size, 1, none⟩ = some (.slice a2 M.length c2) := hRf.cell 1
          have HBF : Hid (Below w.heap.size w ((w2.setCell ⟨w.heap.size, 0, none⟩ (.int .i64 x)).setCell ⟨w.heap.size, 1, none⟩ (.slice a2 M.length c2))) := Lib.hid (((HB0.out.trans (hbW.mono HB0.out.size)).setCell (p := ⟨w.heap.size, 0, none⟩) (Nat.le_refl _) _).setCell (p := ⟨w.heap.size, 1, none⟩) (Nat.le_refl _) _)
          clear hRr hRf
          clear hb2 he2 e0 e1 e2 hlt hbW
          go_wp2
          refine bodyPost_ret (v := .tuple #[.agg #[.int .i64 (x : Nat), .slice a2 M.length c2], .int .i64 0]) (by simp [results, Try.results24, go_sem, r5, r6]) rfl ?_
          injection E1.out with q1 q2 q3
          have hq := E2.out
          rw [← q1] at hq
          refine ⟨0, ?_, Or.inr (Or.inr ⟨rfl, HZ.out, by rw [← HTE.out]; exact fun a b ha hb => HLX.out a b ha hb⟩)⟩
          rw [if_pos rfl, if_pos rfl, ← HTE.out, hMM]
          exact ⟨a2, c2, rfl, hq, E3.out, HBF.out⟩
set_option maxHeartbeats 12800000 in
set_option maxRecDepth 100000 in
theorem rmake_n0 (n : Int) (hn : n < 1) (b : Option Addr) (cp : Nat) (P : List (Int × Int))  (w : World) :
    Calls Try.prog 24 #[.int .i64 n, .slice b P.length cp] w (GivesGE w 0 [] 2) := by
  unfold GivesGE gv
  obtain ⟨W, hW⟩ : ∃ W, W = w.alloc (Obj.cells #[.int .i64 0, .slice none 0 0] 24) := ⟨_, rfl⟩
  have hB0 : Below w.heap.size w W := by rw [hW]; exact (Below.refl _ w).alloc (Nat.le_refl _) _
  have hR : Blk W w.heap.size 24 #[.int .i64 0, .slice none 0 0] := by rw [hW]; exact Blk.new _ _ _
  have HW := Lib.hid hW
  have HB0 := Lib.hid hB0
  have HR1 := Lib.hid hR
  have hbr := Below.refl W.heap.size W
  have a1 : decide (n < 1) = true := decide_eq_true hn
  have hRr : Blk W w.heap.size 24 #[.int .i64 0, .slice none 0 0] := HR1.out.below hbr HR1.out.lt
  have r1 : W.cell? ⟨w.heap.size, 0, none⟩ = some (.int .i64 0) := hRr.cell 0
  have r3 : W.frozen? ⟨w.heap.size, 0, none⟩ = false := hRr.frozen 0
  have r2 : (W.setCell ⟨w.heap.size, 0, none⟩ (.int .i64 0)).cell? ⟨w.heap.size, 1, none⟩ = some (.slice none 0 0) := (hRr.set_ 0 (.int .i64 0)).cell 1
  have r4 : (W.setCell ⟨w.heap.size, 0, none⟩ (.int .i64 0)).frozen? ⟨w.heap.size, 1, none⟩ = false := (hRr.set_ 0 (.int .i64 0)).frozen 1
  have hRf := (hRr.set_ 0 (.int .i64 0)).set_ 1 (.slice none 0 0)
  have r5 : ((W.setCell ⟨w.heap.size, 0, none⟩ (.int .i64 0)).setCell ⟨w.heap.size, 1, none⟩ (.slice none 0 0)).cell? ⟨w.heap.size, 0, none⟩ = some (.int .i64 0) := hRf.cell 0
  have r6 : ((W.setCell ⟨w.heap.size, 0, none⟩ (.int .i64 0)).setCell ⟨w.heap.size, 1, none⟩ (.slice none 0 0)).cell? ⟨w.heap.size, 1, none⟩ = some (.slice none 0 0) := hRf.cell 1
  have HBF : Hid (Below w.heap.size w ((W.setCell ⟨w.heap.size, 0, none⟩ (.int .i64 0)).setCell ⟨w.heap.size, 1, none⟩ (.slice none 0 0))) := Lib.hid (((HB0.out.trans (hbr.mono HB0.out.size)).setCell (p := ⟨w.heap.size, 0, none⟩) (Nat.le_refl _) _).setCell (p := ⟨w.heap.size, 1, none⟩) (Nat.le_refl _) _)
  clear hRr hRf
  clear hbr hB0 hR
  rw [hW] at r1 r2 r3 r4 r5 r6 HBF
  clear hW
  go_enter Try.func24, Try.ntmps24
  go_wp2
  refine bodyPost_ret (v := .tuple #[.agg #[.int .i64 0, .slice none 0 0], .int .i64 2]) (by simp [results, Try.results24, go_sem]) rfl ?_
  exact ⟨none, 0, rfl, RowAt.nil _ _ _ _, World.ownsRow_nil _ _ _ _, (Below.refl _ w).alloc (Nat.le_refl _) _⟩
set_option maxHeartbeats 12800000 in
set_option maxRecDepth 100000 in
theorem rmake_n1 (n : Int) (hn : 12 < n) (b : Option Addr) (cp : Nat) (P : List (Int × Int))  (w : World) :
    Calls Try.prog 24 #[.int .i64 n, .slice b P.length cp] w (GivesGE w 0 [] 2) := by
  unfold GivesGE gv
  obtain ⟨W, hW⟩ : ∃ W, W = w.alloc (Obj.cells #[.int .i64 0, .slice none 0 0] 24) := ⟨_, rfl⟩
  have hB0 : Below w.heap.size w W := by rw [hW]; exact (Below.refl _ w).alloc (Nat.le_refl _) _
  have hR : Blk W w.heap.size 24 #[.int .i64 0, .slice none 0 0] := by rw [hW]; exact Blk.new _ _ _
  have HW := Lib.hid hW
  have HB0 := Lib.hid hB0
  have HR1 := Lib.hid hR
  have hbr := Below.refl W.heap.size W
  have a1 : decide (n < 1) = false := decide_eq_false (by omega)
  have a2 : decide (12 < n) = true := decide_eq_true hn
  have hRr : Blk W w.heap.size 24 #[.int .i64 0, .slice none 0 0] := HR1.out.below hbr HR1.out.lt
  have r1 : W.cell? ⟨w.heap.size, 0, none⟩ = some (.int .i64 0) := hRr.cell 0
  have r3 : W.frozen? ⟨w.heap.size, 0, none⟩ = false := hRr.frozen 0
  have r2 : (W.setCell ⟨w.heap.size, 0, none⟩ (.int .i64 0)).cell? ⟨w.heap.size, 1, none⟩ = some (.slice none 0 0) := (hRr.set_ 0 (.int .i64 0)).cell 1
  have r4 : (W.setCell ⟨w.heap.size, 0, none⟩ (.int .i64 0)).frozen? ⟨w.heap.size, 1, none⟩ = false := (hRr.set_ 0 (.int .i64 0)).frozen 1
  have hRf := (hRr.set_ 0 (.int .i64 0)).set_ 1 (.slice none 0 0)
  have r5 : ((W.setCell ⟨w.heap.size, 0, none⟩ (.int .i64 0)).setCell ⟨w.heap.size, 1, none⟩ (.slice none 0 0)).cell? ⟨w.heap.size, 0, none⟩ = some (.int .i64 0) := hRf.cell 0
  have r6 : ((W.setCell ⟨w.heap.size, 0, none⟩ (.int .i64 0)).setCell ⟨w.heap.size, 1, none⟩ (.slice none 0 0)).cell? ⟨w.heap.size, 1, none⟩ = some (.slice none 0 0) := hRf.cell 1
  have HBF : Hid (Below w.heap.size w ((W.setCell ⟨w.heap.size, 0, none⟩ (.int .i64 0)).setCell ⟨w.heap.size, 1, none⟩ (.slice none 0 0))) := Lib.hid (((HB0.out.trans (hbr.mono HB0.out.size)).setCell (p := ⟨w.heap.size, 0, none⟩) (Nat.le_refl _) _).setCell (p := ⟨w.heap.size, 1, none⟩) (Nat.le_refl _) _)
  clear hRr hRf
  clear hbr hB0 hR
  rw [hW] at r1 r2 r3 r4 r5 r6 HBF
  clear hW
  go_enter Try.func24, Try.ntmps24
  go_wp2
  refine bodyPost_ret (v := .tuple #[.agg #[.int .i64 0, .slice none 0 0], .int .i64 2]) (by simp [results, Try.results24, go_sem]) rfl ?_
  exact ⟨none, 0, rfl, RowAt.nil _ _ _ _, World.ownsRow_nil _ _ _ _, (Below.refl _ w).alloc (Nat.le_refl _) _⟩
set_option maxHeartbeats 12800000 in
set_option maxRecDepth 100000 in
theorem rmake_many (n : Int) (hn0 : 1 ≤ n) (hn : n ≤ 12) (b : Option Addr) (cp : Nat) (P : List (Int × Int)) (hP : 4096 < P.length) (w : World) :
    Calls Try.prog 24 #[.int .i64 n, .slice b P.length cp] w (GivesGE w 0 [] 5) := by
  unfold GivesGE gv
  obtain ⟨W, hW⟩ : ∃ W, W = w.alloc (Obj.cells #[.int .i64 0, .slice none 0 0] 24) := ⟨_, rfl⟩
  have hB0 : Below w.heap.size w W := by rw [hW]; exact (Below.refl _ w).alloc (Nat.le_refl _) _
  have hR : Blk W w.heap.size 24 #[.int .i64 0, .slice none 0 0] := by rw [hW]; exact Blk.new _ _ _
  have HW := Lib.hid hW
  have HB0 := Lib.hid hB0
  have HR1 := Lib.hid hR
  have hbr := Below.refl W.heap.size W
  have a1 : decide (n < 1) = false := decide_eq_false (by omega)
  have a2 : decide (12 < n) = false := decide_eq_false (by omega)
  have a3 : decide (4096 < ((P.length : Nat) : Int)) = true := decide_eq_true (by omega)
  have hRr : Blk W w.heap.size 24 #[.int .i64 0, .slice none 0 0] := HR1.out.below hbr HR1.out.lt
  have r1 : W.cell? ⟨w.heap.size, 0, none⟩ = some (.int .i64 0) := hRr.cell 0
  have r3 : W.frozen? ⟨w.heap.size, 0, none⟩ = false := hRr.frozen 0
  have r2 : (W.setCell ⟨w.heap.size, 0, none⟩ (.int .i64 0)).cell? ⟨w.heap.size, 1, none⟩ = some (.slice none 0 0) := (hRr.set_ 0 (.int .i64 0)).cell 1
  have r4 : (W.setCell ⟨w.heap.size, 0, none⟩ (.int .i64 0)).frozen? ⟨w.heap.size, 1, none⟩ = false := (hRr.set_ 0 (.int .i64 0)).frozen 1
  have hRf := (hRr.set_ 0 (.int .i64 0)).set_ 1 (.slice none 0 0)
  have r5 : ((W.setCell ⟨w.heap.size, 0, none⟩ (.int .i64 0)).setCell ⟨w.heap.size, 1, none⟩ (.slice none 0 0)).cell? ⟨w.heap.size, 0, none⟩ = some (.int .i64 0) := hRf.cell 0
  have r6 : ((W.setCell ⟨w.heap.size, 0, none⟩ (.int .i64 0)).setCell ⟨w.heap.size, 1, none⟩ (.slice none 0 0)).cell? ⟨w.heap.size, 1, none⟩ = some (.slice none 0 0) := hRf.cell 1
  have HBF : Hid (Below w.heap.size w ((W.setCell ⟨w.heap.size, 0, none⟩ (.int .i64 0)).setCell ⟨w.heap.size, 1, none⟩ (.slice none 0 0))) := Lib.hid (((HB0.out.trans (hbr.mono HB0.out.size)).setCell (p := ⟨w.heap.size, 0, none⟩) (Nat.le_refl _) _).setCell (p := ⟨w.heap.size, 1, none⟩) (Nat.le_refl _) _)
  clear hRr hRf
  clear hbr hB0 hR
  rw [hW] at r1 r2 r3 r4 r5 r6 HBF
  clear hW
  go_enter Try.func24, Try.ntmps24
  go_wp2
  refine bodyPost_ret (v := .tuple #[.agg #[.int .i64 0, .slice none 0 0], .int .i64 5]) (by simp [results, Try.results24, go_sem]) rfl ?_
  exact ⟨none, 0, rfl, RowAt.nil _ _ _ _, World.ownsRow_nil _ _ _ _, (Below.refl _ w).alloc (Nat.le_refl _) _⟩
end Go.Proofs.Ytjaafneoinidkaa
