/- Sets of the program. -/
import Derived.Test.YtgejkgeojjgclaaFn
import Derived.Deep.AppendLies
namespace Go.Proofs.Ytgejkgeojjgclaa
open Go.RowKit Go.Proofs.Gr Go.Proofs.Cp
attribute [local go_sem] Oper.semAt_some

theorem RowAt.grown {α : Type} {k : Nat} {enc : α → List Value} {w w' : World} {a : Option Addr} {L : List α} (h : RowAt k enc w a L) {row : Option Nat} (hg : w.grownBy w' row) (hr : ∀ p, a = some p → some p.block ≠ row) : RowAt k enc w' a L := by
  intro j hj
  obtain ⟨b, off, rfl, hlt, h1⟩ := h j hj
  refine ⟨b, off, rfl, Nat.lt_of_lt_of_le hlt hg.size, fun i hi => ?_⟩
  rw [← h1 i hi]
  exact World.cell?_of_block (hg.block b hlt (hr _ rfl))
/-- A list of sets of one's own. -/
structure OL (base : Nat) (V : World) (v : Value) (X : List DX) : Prop where
  own : V.ownsRow base 25 1 v X.length (flat encD X)
  els : ∀ y ∈ X, 1 ≤ y.b.length ∧ IsAt V y.a y.b ∧ ∀ p, y.a = some p → v.ownBlock ≠ some p.block
theorem OL.keep {base : Nat} {V V' : World} {v : Value} {X : List DX} (h : OL base V v X) (hb : Below V.heap.size V V') : OL base V' v X :=
  ⟨own_keep h.own hb, fun y hy => ⟨(h.els y hy).1, (h.els y hy).2.1.keep hb, (h.els y hy).2.2⟩⟩
theorem OL.nil (base : Nat) (V : World) : OL base V (.slice none 0 0) [] := ⟨World.ownsRow_nil _ _ _ _, fun y hy => by simp at hy⟩
theorem IsAt.low {w : World} {p : Addr} {L : List Int} (h : IsAt w (some p) L) (h1 : 1 ≤ L.length) : p.block < w.heap.size := by
  obtain ⟨b, o, e, hlt, _⟩ := h 0 h1
  injection e with e
  subst e
  exact hlt
theorem OL.push {base g cap : Nat} {V V' : World} {o : Obj} {v : Value} {X : List DX} (h : OL base V v X) (y : DX) (h1 : 1 ≤ y.b.length) (h2 : IsAt V y.a y.b) (h3 : ∀ p, y.a = some p → v.ownBlock ≠ some p.block)
    (hown : V'.ownsRow base 25 1 (.slice (some ⟨g, 0, none⟩) (X.length + 1) cap) (X.length + 1) (flat encD X ++ encD y)) (hg : (V.alloc o).grownBy V' v.ownBlock) (hl : v.ownBlock = some g ∨ g = V.heap.size + 1) :
    OL base V' (.slice (some ⟨g, 0, none⟩) (X.length + 1) cap) (X ++ [y]) ∧ IsAt V' y.a y.b ∧ ∀ p, y.a = some p → some g ≠ some p.block := by
  have key : ∀ z : DX, 1 ≤ z.b.length → IsAt V z.a z.b → (∀ p, z.a = some p → v.ownBlock ≠ some p.block) → IsAt V' z.a z.b ∧ ∀ p, z.a = some p → some g ≠ some p.block := by
    intro z hz1 hz2 hz3
    refine ⟨RowAt.grown (hz2.keep ((Below.refl _ V).alloc (Nat.le_refl _) o)) hg (fun p hp e => hz3 p hp e.symm), fun p hp e => ?_⟩
    injection e with e
    rcases hl with hl | hl
    · exact hz3 p hp (by rw [hl, e])
    · rw [hp] at hz2
      have := IsAt.low hz2 hz1
      omega
  refine ⟨⟨?_, fun z hz => ?_⟩, key y h1 h2 h3⟩
  · rw [List.length_append, List.length_singleton, flat_append, flat_one]; exact hown
  · rcases List.mem_append.1 hz with hz | hz
    · obtain ⟨a1, a2, a3⟩ := h.els z hz
      exact ⟨a1, (key z a1 a2 a3).1, (key z a1 a2 a3).2⟩
    · rw [List.mem_singleton] at hz
      subst hz
      exact ⟨h1, (key z h1 h2 h3).1, (key z h1 h2 h3).2⟩
theorem OL.done {base : Nat} {V : World} {v : Value} {X : List DX} (h : OL base V v X) : ∃ p c, v = .slice p (X.map DX.b).length c ∧ LsAt V p (X.map DX.b) := by
  obtain ⟨p, c, hv, hr⟩ := RowAt.of_own encD_len h.own
  exact ⟨p, c, by rw [List.length_map]; exact hv, X, rfl, hr, fun y hy => (h.els y hy).2.1⟩
theorem infoSI : (Try.prog.info? 25).map (fun i => (i.zero, i.size, i.bytes)) = some (some (.slice none 0 0), 1, 24) := by kernel_rfl
theorem minT_le (S : List Int) (k : Nat) : ∀ j, j ≤ k → minT S k ≤ iAt S j := by
  induction k with
  | zero => intro j hj; obtain rfl : j = 0 := by omega
            exact Int.le_refl _
  | succ k ih =>
    intro j hj
    rw [minT]
    by_cases e : j = k + 1
    · subst e; exact Int.min_le_right ..
    · exact Int.le_trans (Int.min_le_left ..) (ih j (by omega))
theorem maxT_at (S : List Int) (k : Nat) : ∃ j, j ≤ k ∧ maxT S k = iAt S j := by
  induction k with
  | zero => exact ⟨0, by omega, rfl⟩
  | succ k ih =>
    obtain ⟨j, hj, e⟩ := ih
    rw [maxT]
    by_cases h : maxT S k ≤ iAt S (k + 1)
    · exact ⟨k + 1, by omega, Int.max_eq_right h⟩
    · exact ⟨j, by omega, by rw [Int.max_eq_left (by omega)]; exact e⟩
theorem minT_at (S : List Int) (k : Nat) : ∃ j, j ≤ k ∧ minT S k = iAt S j := by
  induction k with
  | zero => exact ⟨0, by omega, rfl⟩
  | succ k ih =>
    obtain ⟨j, hj, e⟩ := ih
    rw [minT]
    by_cases h : minT S k ≤ iAt S (k + 1)
    · exact ⟨j, by omega, by rw [Int.min_eq_left h]; exact e⟩
    · exact ⟨k + 1, by omega, Int.min_eq_right (by omega)⟩
theorem grT_mem (S : List Int) (m : Int) (k j : Nat) (hj : j < k) (h : m < iAt S j) : (j : Int) ∈ grT S m k := by
  induction k with
  | zero => omega
  | succ k ih =>
    rw [grT, List.mem_append]
    by_cases e : j = k
    · subst e; right; rw [if_pos h]; simp
    · left; exact ih (by omega)
def leS (S : List Int) : Int := minT S (S.length - 1)
def moS (S : List Int) : Int := maxT S (S.length - 1)
theorem grT_pos (S : List Int) (m : Int) (h0 : 1 ≤ S.length) (h : m < moS S) : 1 ≤ (grT S m S.length).length := by
  obtain ⟨j, hj, e⟩ := maxT_at S (S.length - 1)
  have := grT_mem S m S.length j (by omega) (by unfold moS at h; omega)
  exact List.length_pos_of_mem this
theorem le_mo (S : List Int) : leS S ≤ moS S := by
  obtain ⟨j, hj, e⟩ := maxT_at S (S.length - 1)
  have := minT_le S (S.length - 1) j hj
  unfold leS moS; omega
/-- The sets of a script, as many as a number says. -/
def lstT (S : List Int) : Nat → List (List Int)
  | 0 => []
  | k + 1 => lstT S k ++ [grT S (moS S - 1 - k) S.length]
theorem lstT_len (S : List Int) (k : Nat) : (lstT S k).length = k := by
  induction k with
  | zero => rfl
  | succ k ih => rw [lstT, List.length_append, ih]; rfl
def setsK (n : Int) (L : List E) (S : List Int) : Nat := if chkGD n L S ≠ 0 then chkGD n L S else if 256 < moS S - leS S then 12 else 0
def setsV (n : Int) (L : List E) (S : List Int) : List (List Int) := if setsK n L S ≠ 0 then [] else lstT S (moS S - leS S).toNat
/-- Hands back sets, or an error. -/
def GivesLE (w : World) (M : List (List Int)) (k : Nat) (e : Ending) (x : World) : Prop := ∃ p c, e = .returned (.tuple #[.slice p M.length c, .int .i64 (k : Nat)]) ∧ LsAt x p M ∧ Below w.heap.size w x
theorem LsAt.nil (w : World) : LsAt w none [] := ⟨[], rfl, RowAt.nil _ _ _ _, fun x hx => by simp at hx⟩
set_option maxHeartbeats 12800000 in
set_option maxRecDepth 100000 in
theorem pSets_any (n : Int) (a : Option Addr) (cap : Nat) (L : List E) (hL : L.length ≤ 100000) (b : Option Addr) (c : Nat) (S : List Int) (hS : S.length ≤ 1000) (w : World) (h : EsAt w a L) (ho : IsAt w b S) :
    Calls Try.prog 38 #[gv n a L.length cap, .slice b S.length c] w (GivesLE w (setsV n L S) (setsK n L S)) := by
  obtain ⟨i0, hi0, hz0, hz1, hz2⟩ := info_parts infoSI
  have HC := Lib.hid (fun w h ho => pckS_any n a cap L hL b c S hS w h ho)
  have HR1 : Hid (chkGD n L S ≠ 0 → setsK n L S = chkGD n L S ∧ setsV n L S = []) := Lib.hid fun h => by
    have : setsK n L S = chkGD n L S := by unfold setsK; rw [if_pos h]
    exact ⟨this, by unfold setsV; rw [if_pos (by rw [this]; exact h)]⟩
  have HR2 : Hid (chkGD n L S = 0 → 256 < moS S - leS S → setsK n L S = 12 ∧ setsV n L S = []) := Lib.hid fun h h' => by
    have : setsK n L S = 12 := by unfold setsK; rw [if_neg (by omega), if_pos h']
    exact ⟨this, by unfold setsV; rw [if_pos (by rw [this]; decide)]⟩
  have HR3 : Hid (chkGD n L S = 0 → ¬ 256 < moS S - leS S → setsK n L S = 0 ∧ setsV n L S = lstT S (moS S - leS S).toNat) := Lib.hid fun h h' => by
    have : setsK n L S = 0 := by unfold setsK; rw [if_neg (by omega), if_neg h']
    exact ⟨this, by unfold setsV; rw [if_neg (by omega)]⟩
  have HRG : Hid (chkGD n L S = 0 → 1 ≤ S.length ∧ -1048576 ≤ leS S ∧ leS S ≤ moS S ∧ moS S ≤ 1048576) := Lib.hid fun h => by
    obtain ⟨_, hd, _⟩ := chkGD_zero h
    have h1 := hd.one
    obtain ⟨j, hj, e⟩ := maxT_at S (S.length - 1)
    obtain ⟨j', hj', e'⟩ := minT_at S (S.length - 1)
    have a1 := div_at hd j (by omega)
    have a2 := div_at hd j' (by omega)
    refine ⟨h1, ?_, le_mo S, ?_⟩
    · unfold leS; omega
    · unfold moS; omega
  have HMI : Hid (1 ≤ S.length → ∀ u, IsAt u b S → Calls Try.prog 71 #[.slice b S.length c] u (fun e w' => e = .returned (.int .i64 (leS S)) ∧ Below u.heap.size u w')) := Lib.hid fun h0 u hu => sMin_any b c S h0 hS u hu
  have HMA : Hid (1 ≤ S.length → ∀ u, IsAt u b S → Calls Try.prog 72 #[.slice b S.length c] u (fun e w' => e = .returned (.int .i64 (moS S)) ∧ Below u.heap.size u w')) := Lib.hid fun h0 u hu => sMax_any b c S h0 hS u hu
  have HGR := Lib.hid (fun m u hu => pgreater_any b c S hS m u hu)
  have HGP : Hid (1 ≤ S.length → ∀ m, m < moS S → 1 ≤ (grT S m S.length).length) := Lib.hid fun h0 m hm => grT_pos S m h0 hm
  have HS0 : Hid (lstT S 0 = []) := Lib.hid rfl
  have HSS : Hid (∀ k : Nat, lstT S (k + 1) = lstT S k ++ [grT S (moS S - 1 - k) S.length]) := Lib.hid fun _ => rfl
  have HSL := Lib.hid (fun k => lstT_len S k)
  generalize setsK n L S = RK at *
  generalize setsV n L S = RV at *
  generalize chkGD n L S = K at *
  generalize leS S = lo at *
  generalize moS S = hi at *
  generalize lstT S = Z at *
  generalize hgt : (fun m => grT S m S.length) = GT at *
  have HGT : Hid (∀ m, grT S m S.length = GT m) := Lib.hid fun m => by rw [← hgt]
  simp only [HGT.out] at HGR HGP HSS
  clear hgt
  unfold GivesLE gv at *
  unfold GivesN at HC
  obtain ⟨W, hW⟩ : ∃ W, W = w.alloc (Obj.cells #[.int .i64 n, .slice a L.length cap] 24) := ⟨_, rfl⟩
  have hB0 : Below w.heap.size w W := by rw [hW]; exact (Below.refl _ w).alloc (Nat.le_refl _) _
  have hG : Blk W w.heap.size 24 #[.int .i64 n, .slice a L.length cap] := by rw [hW]; exact Blk.new _ _ _
  have HW := Lib.hid hW
  have HB0 := Lib.hid hB0
  have HE1 := Lib.hid (h.keep hB0)
  have g0 := hG.cell 0
  have g1 := hG.cell 1
  simp only [List.getElem?_toArray, List.getElem?_cons_zero, List.getElem?_cons_succ] at g0 g1
  have HHS := Lib.hid (ho.keep hB0)
  rw [hW] at g0 g1
  clear ho hB0 hG hW h
  go_enter Try.func38, Try.ntmps38
  go_wp2_with fail
  rw [← HW.out]
  refine (HC.out _ HE1.out HHS.out).mono ?_
  rintro e w1 ⟨rfl, hb⟩
  have HB1 := Lib.hid hb
  clear g0 g1 hb
  by_cases hk : K ≠ 0
  · have q0 : (((K : Nat) : Int) != 0) = true := by rw [bne_iff_ne]; omega
    have HR := Lib.hid (HR1.out hk)
    clear hk
    go_wp2
    go_ret2
    exact ⟨none, 0, by rw [HR.out.1, HR.out.2]; rfl, by rw [HR.out.2]; exact LsAt.nil _, HB0.out.trans (HB1.out.mono HB0.out.size)⟩
  · have hK0 : K = 0 := by omega
    have HR2a := Lib.hid (HR2.out hK0)
    have HR3a := Lib.hid (HR3.out hK0)
    obtain ⟨hs1, r1, r2, r3⟩ := HRG.out hK0
    have HMIa := Lib.hid (HMI.out hs1)
    have HMAa := Lib.hid (HMA.out hs1)
    have HGPa := Lib.hid (HGP.out hs1)
    clear hk HR1 HC HR2 HR3 HRG HMI HMA HGP hs1
    subst hK0
    go_wp2_with fail
    refine (HMIa.out _ (HHS.out.keep HB1.out)).mono ?_
    rintro e w2 ⟨rfl, hb⟩
    have HB2 := Lib.hid (HB1.out.trans (hb.mono HB1.out.size))
    clear hb
    go_wp2_with fail
    refine (HMAa.out _ (HHS.out.keep HB2.out)).mono ?_
    rintro e w3 ⟨rfl, hb⟩
    have HB3 := Lib.hid (HB2.out.trans (hb.mono HB2.out.size))
    clear hb
    by_cases hbig : 256 < hi - lo
    · have HR := Lib.hid (HR2a.out hbig)
      go_wp2
      go_ret2
      exact ⟨none, 0, by rw [HR.out.1, HR.out.2]; rfl, by rw [HR.out.2]; exact LsAt.nil _, HB0.out.trans (HB3.out.mono HB0.out.size)⟩
    · have HR := Lib.hid (HR3a.out (by omega))
      obtain ⟨T, hT⟩ : ∃ T : Nat, hi - lo = T := ⟨(hi - lo).toNat, by omega⟩
      rw [hT, Int.toNat_natCast] at HR
      have hbig' : hi - lo ≤ 256 := by omega
      have HTL : Hid (lo = hi - T ∧ T ≤ 256) := Lib.hid ⟨by omega, by omega⟩
      clear hbig HR2a HR3a hT
      go_wp2
      go_loopw [9, 10] (fun s x wr => ∃ (i : Nat) (X : List DX), i ≤ T ∧ x = .int .i64 (hi - 1 - i) ∧ X.map DX.b = Z i ∧ OL W.heap.size wr s X ∧ Below W.heap.size W wr) (fun _ x _ => (intOf x - (lo - 1)).toNat)
      case atStart => exact ⟨0, [], by omega, by go_num, by rw [HS0.out]; rfl, OL.nil _ _, HB3.out⟩
      case round =>
        obtain ⟨i, X, hi1, rfl, hX, hol, hb⟩ := hrel
        have HBR := Lib.hid hb
        have HX := Lib.hid hX
        have hxl : X.length = i := by
          have := congrArg List.length hX
          rw [List.length_map, HSL.out i] at this
          exact this
        have HXL := Lib.hid hxl
        by_cases hlt : i < T
        · have htl := HTL.out
          have j1 : lo ≤ hi - 1 - (i : Int) := by omega
          have HLT := Lib.hid hlt
          have HOL := Lib.hid hol
          have HSI := Lib.hid (HSS.out i)
          have HGI := Lib.hid (HGPa.out (hi - 1 - i) (by omega))
          have HGRI := Lib.hid (HGR.out (hi - 1 - i))
          have hil : (i : Int) ≤ 256 := by omega
          generalize GT (hi - 1 - i) = G at *
          clear hX hol hb hlt hxl htl
          go_wp2_with fail
          refine (HGRI.out _ (HHS.out.keep HBR.out)).mono ?_
          rintro e w4 ⟨p0, c0, rfl, hr0, hp0, hb4⟩
          have HB4 := Lib.hid (HBR.out.trans (hb4.mono HBR.out.size))
          have HBS := Lib.hid HB4.out.size
          have hol4 := HOL.out.keep hb4
          have HOW := Lib.hid hol4.own
          have hx16 : X.length ≤ 256 := by have := HXL.out; omega
          have HXN : Hid ((X ++ [DX.mk p0 G c0]).map DX.b = Z (i + 1)) := Lib.hid (by rw [List.map_append, HX.out, HSI.out]; rfl)
          have HPU : Hid (∀ {g cap : Nat} {V' : World} {o : Obj}, V'.ownsRow W.heap.size 25 1 (.slice (some ⟨g, 0, none⟩) (X.length + 1) cap) (X.length + 1) (flat encD X ++ [.slice p0 G.length c0]) → (w4.alloc o).grownBy V' u9.ownBlock → (u9.ownBlock = some g ∨ g = w4.heap.size + 1) → OL W.heap.size V' (.slice (some ⟨g, 0, none⟩) (X.length + 1) cap) (X ++ [DX.mk p0 G c0]) ∧ IsAt V' p0 G ∧ ∀ p', p0 = some p' → some g ≠ some p'.block) := Lib.hid fun hown hg hl => hol4.push (DX.mk p0 G c0) HGI.out hr0 (fun p' e e' => by
            have h1 := hp0 p' e
            have h2 := (HOL.out.own.lt _ e').2
            omega) hown hg hl
          clear hr0 hp0 hb4 hol4
          go_wp2_with (at_builtin; refine wpList_append_lies _ rfl _ _ 64 rfl W.heap.size 25 i0 (.slice none 0 0) 1 24 Try.underlying64 hi0 hz0 hz1 hz2 rfl (by decide) u9 X.length (flat encD X) rfl (HOW.out.alloc _) ⟨_, 0, none⟩ 1 1 [.slice p0 G.length c0] rfl rfl (lit_row _ _ _) (by simp [Value.oneCell']) (by decide) (by unfold maxLen; omega) (by omega) (by rw [World.size_alloc]; have := HBS.out; omega) (w4.heap.size + 1) (World.size_alloc ..) ?_; intro g cap w3 hown1 hgrow1 hlie hlt3; have hB3 : Below W.heap.size W w3 := below_push (w := W) HB4.out (fun k hk => (HOW.out.lt k hk).1) hgrow1; have HB3 := Lib.hid hB3; have hpush := HPU.out hown1 hgrow1 hlie; have HPUS := Lib.hid hpush; clear hown1 hgrow1 hlie hB3 hpush hlt3)
          go_roundw
          case rel => exact ⟨i + 1, _, by have := HLT.out; omega, by go_num, HXN.out, HPUS.out.1, HB3.out⟩
          case measure => have := HLT.out; have := HTL.out; simp [intOf]; omega
        · obtain rfl : i = T := by omega
          have htl := HTL.out
          have j1 : ¬ lo ≤ hi - 1 - (i : Int) := by omega
          obtain ⟨p9, c9, hv, hls⟩ := hol.done
          rw [hX] at hv hls
          subst hv
          have HLS := Lib.hid hls
          clear hX hol hb hxl htl hls
          go_wp2
          go_ret2
          first | exact ⟨p9, ⟨c9, by rw [HR.out.1, HR.out.2]; rfl⟩, by rw [HR.out.2]; exact HLS.out, HB0.out.trans (HBR.out.mono HB0.out.size)⟩ | exact ⟨p9, c9, by rw [HR.out.1, HR.out.2]; rfl, by rw [HR.out.2]; exact HLS.out, HB0.out.trans (HBR.out.mono HB0.out.size)⟩
end Go.Proofs.Ytgejkgeojjgclaa
