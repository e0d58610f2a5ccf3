/- Walks of fractions: the operations on the texts of right fractions. And: Walks of the laws of fractions: the examples of the chapter. And: Walks of the laws of fractions: the examples of the chapter, walked. -/
import Derived.Test.YtolkiimlchfmlaaGreatDoorQ28
import Derived.Deep.QuietTactic
import Derived.BigQuiet
namespace Go.Proofs.YtolkiimlchfmlaaGreatDoor
open Go.RowKit Go.Proofs.Num

theorem fAddT {D : Nat} (n d m e : Int) (hn : Few D n) (hd : Few D d) (hm : Few D m) (he : Few D e) (h1 : 1 ≤ D) (hD : D = 1024) (hl : Low n d) (hl' : Low m e) (w : World) (hT : Tab w) :
    Calls Tryz.prog 27 #[FrV (T n) (T d), FrV (T m) (T e)] w
      (FrE w (frA (cc (n * e) (m * d) (n * e + m * d) (d * e)) (n * e + m * d) (d * e)) (frB (cc (n * e) (m * d) (n * e + m * d) (d * e)) (n * e + m * d) (d * e)) (cc (n * e) (m * d) (n * e + m * d) (d * e))) := by
  have h0 : d * e ≠ 0 := Int.mul_ne_zero (by have := hl.1; omega) (by have := hl'.1; omega)
  exact fAdd _ _ _ _ _ _ _ (fun w hT => fchecked_add _ _ _ _ _ _ _ (fun w hT => fcheck_T n d hn hd h1 (by omega) hl w hT) (fun w hT => fcheck_T m e hm he h1 (by omega) hl' w hT)
    (fun w hT => fadd_in _ _ _ _ _ _ _ (fun w hT => fcombined_add n d m e hn hd hm he h1 hD h0 w hT) w hT) w hT) w hT

theorem fSubT {D : Nat} (n d m e : Int) (hn : Few D n) (hd : Few D d) (hm : Few D m) (he : Few D e) (h1 : 1 ≤ D) (hD : D = 1024) (hl : Low n d) (hl' : Low m e) (w : World) (hT : Tab w) :
    Calls Tryz.prog 29 #[FrV (T n) (T d), FrV (T m) (T e)] w
      (FrE w (frA (cc (n * e) (m * d) (n * e - m * d) (d * e)) (n * e - m * d) (d * e)) (frB (cc (n * e) (m * d) (n * e - m * d) (d * e)) (n * e - m * d) (d * e)) (cc (n * e) (m * d) (n * e - m * d) (d * e))) := by
  have h0 : d * e ≠ 0 := Int.mul_ne_zero (by have := hl.1; omega) (by have := hl'.1; omega)
  exact fSub _ _ _ _ _ _ _ (fun w hT => fchecked_sub _ _ _ _ _ _ _ (fun w hT => fcheck_T n d hn hd h1 (by omega) hl w hT) (fun w hT => fcheck_T m e hm he h1 (by omega) hl' w hT)
    (fun w hT => fsub_in _ _ _ _ _ _ _ (fun w hT => fcombined_sub n d m e hn hd hm he h1 hD h0 w hT) w hT) w hT) w hT

theorem fMulT {D : Nat} (n d m e : Int) (hn : Few D n) (hd : Few D d) (hm : Few D m) (he : Few D e) (h1 : 1 ≤ D) (hD : D = 1024) (hl : Low n d) (hl' : Low m e) (w : World) (hT : Tab w) :
    Calls Tryz.prog 31 #[FrV (T n) (T d), FrV (T m) (T e)] w
      (FrE w (frA (pc (n * m) (d * e)) (n * m) (d * e)) (frB (pc (n * m) (d * e)) (n * m) (d * e)) (pc (n * m) (d * e))) := by
  have h0 : d * e ≠ 0 := Int.mul_ne_zero (by have := hl.1; omega) (by have := hl'.1; omega)
  exact fMul _ _ _ _ _ _ _ (fun w hT => fchecked_mul _ _ _ _ _ _ _ (fun w hT => fcheck_T n d hn hd h1 (by omega) hl w hT) (fun w hT => fcheck_T m e hm he h1 (by omega) hl' w hT)
    (fun w hT => fmul_in _ _ _ _ _ _ _ (fun w hT => fmultiplied n d m e hn hd hm he h1 hD h0 w hT) w hT) w hT) w hT

theorem fDivT {D : Nat} (n d m e : Int) (hn : Few D n) (hd : Few D d) (hm : Few D m) (he : Few D e) (h1 : 1 ≤ D) (hD : D = 1024) (hl : Low n d) (hl' : Low m e) (hm0 : m ≠ 0) (w : World) (hT : Tab w) :
    Calls Tryz.prog 33 #[FrV (T n) (T d), FrV (T m) (T e)] w
      (FrE w (frA (pc (n * e) (d * m)) (n * e) (d * m)) (frB (pc (n * e) (d * m)) (n * e) (d * m)) (pc (n * e) (d * m))) := by
  have h0 : d * m ≠ 0 := Int.mul_ne_zero (by have := hl.1; omega) hm0
  have hz : ((T m).toList == [48]) = false := by rw [T_zero]; exact decide_eq_false hm0
  exact fDiv _ _ _ _ _ _ _ (fun w hT => fchecked_div _ _ _ _ _ _ _ (fun w hT => fcheck_T n d hn hd h1 (by omega) hl w hT) (fun w hT => fcheck_T m e hm he h1 (by omega) hl' w hT)
    (fun w hT => fdiv_in _ _ _ _ _ _ _ hz (fun w hT => fmultiplied n d e m hn hd he hm h1 hD h0 w hT) w hT) w hT) w hT

theorem fDivT_zero {D : Nat} (n d m e : Int) (hn : Few D n) (hd : Few D d) (hm : Few D m) (he : Few D e) (h1 : 1 ≤ D) (hD : D ≤ 1024) (hl : Low n d) (hl' : Low m e) (hm0 : m = 0) (w : World) (hT : Tab w) :
    Calls Tryz.prog 33 #[FrV (T n) (T d), FrV (T m) (T e)] w (FrE w ⟨#[]⟩ ⟨#[]⟩ 10) := by
  have hz : ((T m).toList == [48]) = true := by rw [T_zero]; exact decide_eq_true hm0
  exact fDiv _ _ _ _ _ _ _ (fun w hT => fchecked_div _ _ _ _ _ _ _ (fun w hT => fcheck_T n d hn hd h1 hD hl w hT) (fun w hT => fcheck_T m e hm he h1 hD hl' w hT)
    (fun w _ => fdiv_zero _ _ _ _ hz w) w hT) w hT

theorem cmpR_T {d : Nat} {x y : Int} (hx : Few d x) (hy : Few d y) (h1 : 1 ≤ d) (hd : d ≤ 1024) : cmpR (T x).data.toList (T y).data.toList = (cmpZ x y, 0) := by
  unfold cmpR
  rw [chk2_T hx hy h1 hd, if_neg (by simp), T_data, T_data, parse_itoa, parse_itoa]

theorem fCompareT {D : Nat} (n d m e : Int) (hn : Few D n) (hd : Few D d) (hm : Few D m) (he : Few D e) (h1 : 1 ≤ D) (hD : D = 1024) (hl : Low n d) (hl' : Low m e) (hp : pc (n * e) (m * d) = 0) (w : World) (hT : Tab w) :
    Calls Tryz.prog 35 #[FrV (T n) (T d), FrV (T m) (T e)] w (IntOut w (cmpZ (n * e) (m * d)) 0) := by
  have hx := few_of_te hD (pc_zero hp).1
  have hy := few_of_te hD (pc_zero hp).2
  refine fCompare _ _ _ _ _ _ (fun w hT => fcheckedI _ _ _ _ _ _ (fun w hT => fcheck_T n d hn hd h1 (by omega) hl w hT) (fun w hT => fcheck_T m e hm he h1 (by omega) hl' w hT)
    (fun w hT => fcmp_in _ _ _ _ (T (n * e)) (T (m * d)) _ 0 _ (fun w hT => ?_) (fun w _ => ?_) w hT) w hT) w hT
  · have h := fcrossed n d m e hn hd hm he h1 (by omega) w hT
    rw [PA_zero hp, PB_zero hp, hp] at h
    exact h
  · have h := cmpR_any (T (n * e)) (T (m * d)) (hx.size h1 (by omega)) (hy.size h1 (by omega)) w
    rw [cmpR_T hx hy h1 (by omega)] at h
    exact h

theorem fCompareT_bad {D : Nat} (n d m e : Int) (hn : Few D n) (hd : Few D d) (hm : Few D m) (he : Few D e) (h1 : 1 ≤ D) (hD : D ≤ 1024) (hl : Low n d) (hl' : Low m e) (hp : pc (n * e) (m * d) ≠ 0) (w : World) (hT : Tab w) :
    Calls Tryz.prog 35 #[FrV (T n) (T d), FrV (T m) (T e)] w (IntOut w 0 (pc (n * e) (m * d))) :=
  fCompare _ _ _ _ _ _ (fun w hT => fcheckedI _ _ _ _ _ _ (fun w hT => fcheck_T n d hn hd h1 hD hl w hT) (fun w hT => fcheck_T m e hm he h1 hD hl' w hT)
    (fun w hT => fcmp_bad _ _ _ _ _ _ _ hp (fun w hT => fcrossed n d m e hn hd hm he h1 hD w hT) w hT) w hT) w hT

theorem pc_few {k : Nat} {x y : Int} (hx : Few k x) (hy : Few k y) (h1 : 1 ≤ k) (hk : k ≤ 1024) : pc x y = 0 := by
  unfold pc; rw [hx.te h1 hk, hy.te h1 hk]; rfl
theorem cc_few {k : Nat} {x y z u : Int} (hx : Few k x) (hy : Few k y) (hz : Few k z) (hu : Few k u) (h1 : 1 ≤ k) (hk : k ≤ 1024) : cc x y z u = 0 := by
  unfold cc; rw [pc_few hx hy h1 hk, hz.te h1 hk, hu.te h1 hk]; rfl

/-- The operations on short fractions: no number is too long. -/
theorem fAddS {D : Nat} (n d m e : Int) (hn : Few D n) (hd : Few D d) (hm : Few D m) (he : Few D e) (h1 : 1 ≤ D) (hD : D + D + 1 ≤ 1024) (hl : Low n d) (hl' : Low m e) (w : World) (hT : Tab w) :
    Calls Tryz.prog 27 #[FrV (T n) (T d), FrV (T m) (T e)] w (FrE w (T (lowN (n * e + m * d) (d * e))) (T (lowD (n * e + m * d) (d * e))) 0) := by
  obtain ⟨E, hE⟩ : ∃ E : Nat, E = 1024 := ⟨_, rfl⟩
  have hc : cc (n * e) (m * d) (n * e + m * d) (d * e) = 0 := cc_few (k := D + D + 1) ((hn.mul he).le (by omega)) ((hm.mul hd).le (by omega)) ((hn.mul he).add (hm.mul hd)) ((hd.mul he).le (by omega)) (by omega) hD
  have h := fAddT n d m e (hn.le (show D ≤ E by omega)) (hd.le (by omega)) (hm.le (by omega)) (he.le (by omega)) (by omega) hE hl hl' w hT
  rw [hc, frA_zero, frB_zero] at h
  exact h
theorem fSubS {D : Nat} (n d m e : Int) (hn : Few D n) (hd : Few D d) (hm : Few D m) (he : Few D e) (h1 : 1 ≤ D) (hD : D + D + 1 ≤ 1024) (hl : Low n d) (hl' : Low m e) (w : World) (hT : Tab w) :
    Calls Tryz.prog 29 #[FrV (T n) (T d), FrV (T m) (T e)] w (FrE w (T (lowN (n * e - m * d) (d * e))) (T (lowD (n * e - m * d) (d * e))) 0) := by
  obtain ⟨E, hE⟩ : ∃ E : Nat, E = 1024 := ⟨_, rfl⟩
  have hc : cc (n * e) (m * d) (n * e - m * d) (d * e) = 0 := cc_few (k := D + D + 1) ((hn.mul he).le (by omega)) ((hm.mul hd).le (by omega)) ((hn.mul he).sub (hm.mul hd)) ((hd.mul he).le (by omega)) (by omega) hD
  have h := fSubT n d m e (hn.le (show D ≤ E by omega)) (hd.le (by omega)) (hm.le (by omega)) (he.le (by omega)) (by omega) hE hl hl' w hT
  rw [hc, frA_zero, frB_zero] at h
  exact h
theorem fMulS {D : Nat} (n d m e : Int) (hn : Few D n) (hd : Few D d) (hm : Few D m) (he : Few D e) (h1 : 1 ≤ D) (hD : D + D ≤ 1024) (hl : Low n d) (hl' : Low m e) (w : World) (hT : Tab w) :
    Calls Tryz.prog 31 #[FrV (T n) (T d), FrV (T m) (T e)] w (FrE w (T (lowN (n * m) (d * e))) (T (lowD (n * m) (d * e))) 0) := by
  obtain ⟨E, hE⟩ : ∃ E : Nat, E = 1024 := ⟨_, rfl⟩
  have hc : pc (n * m) (d * e) = 0 := pc_few (k := D + D) (hn.mul hm) (hd.mul he) (by omega) hD
  have h := fMulT n d m e (hn.le (show D ≤ E by omega)) (hd.le (by omega)) (hm.le (by omega)) (he.le (by omega)) (by omega) hE hl hl' w hT
  rw [hc, frA_zero, frB_zero] at h
  exact h
theorem fDivS {D : Nat} (n d m e : Int) (hn : Few D n) (hd : Few D d) (hm : Few D m) (he : Few D e) (h1 : 1 ≤ D) (hD : D + D ≤ 1024) (hl : Low n d) (hl' : Low m e) (hm0 : m ≠ 0) (w : World) (hT : Tab w) :
    Calls Tryz.prog 33 #[FrV (T n) (T d), FrV (T m) (T e)] w (FrE w (T (lowN (n * e) (d * m))) (T (lowD (n * e) (d * m))) 0) := by
  obtain ⟨E, hE⟩ : ∃ E : Nat, E = 1024 := ⟨_, rfl⟩
  have hc : pc (n * e) (d * m) = 0 := pc_few (k := D + D) (hn.mul he) (hd.mul hm) (by omega) hD
  have h := fDivT n d m e (hn.le (show D ≤ E by omega)) (hd.le (by omega)) (hm.le (by omega)) (he.le (by omega)) (by omega) hE hl hl' hm0 w hT
  rw [hc, frA_zero, frB_zero] at h
  exact h
theorem fCompareS {D : Nat} (n d m e : Int) (hn : Few D n) (hd : Few D d) (hm : Few D m) (he : Few D e) (h1 : 1 ≤ D) (hD : D + D ≤ 1024) (hl : Low n d) (hl' : Low m e) (w : World) (hT : Tab w) :
    Calls Tryz.prog 35 #[FrV (T n) (T d), FrV (T m) (T e)] w (IntOut w (cmpZ (n * e) (m * d)) 0) := by
  obtain ⟨E, hE⟩ : ∃ E : Nat, E = 1024 := ⟨_, rfl⟩
  have hc : pc (n * e) (m * d) = 0 := pc_few (k := D + D) (hn.mul he) (hm.mul hd) (by omega) hD
  exact fCompareT n d m e (hn.le (show D ≤ E by omega)) (hd.le (by omega)) (hm.le (by omega)) (he.le (by omega)) (by omega) hE hl hl' hc w hT
end Go.Proofs.YtolkiimlchfmlaaGreatDoor

namespace Go.Proofs.YtolkiimlchfmlaaGreatDoor
open Go.RowKit Go.Proofs.Num

theorem ft1 : T 1 = ⟨#[49]⟩ := by kernel_rfl
theorem ft6 : T 6 = ⟨#[54]⟩ := by kernel_rfl
theorem ft10 : T 10 = ⟨#[49, 48]⟩ := by kernel_rfl
theorem ft2 : T 2 = ⟨#[50]⟩ := by kernel_rfl
theorem ft3 : T 3 = ⟨#[51]⟩ := by kernel_rfl
theorem ft9 : T 9 = ⟨#[57]⟩ := by kernel_rfl
theorem ft4 : T 4 = ⟨#[52]⟩ := by kernel_rfl
theorem ftm4 : T (-4) = ⟨#[45, 52]⟩ := by kernel_rfl
theorem ft15 : T 15 = ⟨#[49, 53]⟩ := by kernel_rfl
theorem ftm3 : T (-3) = ⟨#[45, 51]⟩ := by kernel_rfl
theorem ftm2 : T (-2) = ⟨#[45, 50]⟩ := by kernel_rfl

theorem few3 {z : Int} (h : z.natAbs < 1000) : Few 3 z := h
theorem aw_add (w : World) (hT : Tab w) : Calls Tryz.prog 27 #[.agg #[.string ⟨#[49]⟩, .string ⟨#[54]⟩], .agg #[.string ⟨#[49]⟩, .string ⟨#[49, 48]⟩]] w (FrE w ⟨#[52]⟩ ⟨#[49, 53]⟩ 0) := by
  have h := fAddS (1) (6) (1) (10) (few3 (by decide)) (few3 (by decide)) (few3 (by decide)) (few3 (by decide)) (by omega) (by omega) ⟨by omega, by decide⟩ ⟨by omega, by decide⟩ w hT
  rw [show lowN (1 * 10 + 1 * 6) (6 * 10) = 4 by decide +kernel, show lowD (1 * 10 + 1 * 6) (6 * 10) = 15 by decide +kernel, ft1, ft6, ft10, ft4, ft15] at h
  exact h
theorem aw_sub (w : World) (hT : Tab w) : Calls Tryz.prog 29 #[.agg #[.string ⟨#[49]⟩, .string ⟨#[54]⟩], .agg #[.string ⟨#[49]⟩, .string ⟨#[49, 48]⟩]] w (FrE w ⟨#[49]⟩ ⟨#[49, 53]⟩ 0) := by
  have h := fSubS (1) (6) (1) (10) (few3 (by decide)) (few3 (by decide)) (few3 (by decide)) (few3 (by decide)) (by omega) (by omega) ⟨by omega, by decide⟩ ⟨by omega, by decide⟩ w hT
  rw [show lowN (1 * 10 - 1 * 6) (6 * 10) = 1 by decide +kernel, show lowD (1 * 10 - 1 * 6) (6 * 10) = 15 by decide +kernel, ft1, ft6, ft10, ft15] at h
  exact h
theorem aw_mul (w : World) (hT : Tab w) : Calls Tryz.prog 31 #[.agg #[.string ⟨#[50]⟩, .string ⟨#[51]⟩], .agg #[.string ⟨#[57]⟩, .string ⟨#[52]⟩]] w (FrE w ⟨#[51]⟩ ⟨#[50]⟩ 0) := by
  have h := fMulS (2) (3) (9) (4) (few3 (by decide)) (few3 (by decide)) (few3 (by decide)) (few3 (by decide)) (by omega) (by omega) ⟨by omega, by decide⟩ ⟨by omega, by decide⟩ w hT
  rw [show lowN (2 * 9) (3 * 4) = 3 by decide +kernel, show lowD (2 * 9) (3 * 4) = 2 by decide +kernel, ft2, ft3, ft9, ft4] at h
  exact h
theorem aw_div (w : World) (hT : Tab w) : Calls Tryz.prog 33 #[.agg #[.string ⟨#[50]⟩, .string ⟨#[51]⟩], .agg #[.string ⟨#[45, 52]⟩, .string ⟨#[57]⟩]] w (FrE w ⟨#[45, 51]⟩ ⟨#[50]⟩ 0) := by
  have h := fDivS (2) (3) (-4) (9) (few3 (by decide)) (few3 (by decide)) (few3 (by decide)) (few3 (by decide)) (by omega) (by omega) ⟨by omega, by decide⟩ ⟨by omega, by decide⟩ (by omega) w hT
  rw [show lowN (2 * 9) (3 * (-4)) = -3 by decide +kernel, show lowD (2 * 9) (3 * (-4)) = 2 by decide +kernel, ft2, ft3, ftm4, ft9, ftm3] at h
  exact h
theorem aw_of (w : World) (hT : Tab w) : Calls Tryz.prog 26 #[.int .i64 6, .int .i64 (-4)] w (FrE w ⟨#[45, 51]⟩ ⟨#[50]⟩ 0) := by
  refine fOf 6 (-4) (T 6) (T (-4)) _ _ _ (fun w hT => of_ok 6 (by omega) (by omega) w hT) (fun w hT => of_ok (-4) (by omega) (by omega) w hT) (fun w hT => ?_) w hT
  have h := fMake 6 (-4) (few3 (by decide)) (few3 (by decide)) (by omega) (by omega) (by omega) w hT
  rw [show lowN 6 (-4) = -3 by decide +kernel, show lowD 6 (-4) = 2 by decide +kernel, ftm3, ft2] at h
  exact h
theorem aw_text (w : World) (hT : Tab w) : Calls Tryz.prog 16 #[.agg #[.string ⟨#[45, 51]⟩, .string ⟨#[50]⟩]] w (OutE w ⟨#[45, 51, 47, 50]⟩ 0) := by
  have h := fText (-3) 2 (few3 (by decide)) (few3 (by decide)) (by omega) (by omega) ⟨by omega, by decide⟩ w hT
  rw [show FT (-3) 2 = ⟨#[45, 51, 47, 50]⟩ by unfold FT; rw [if_neg (by omega), ftm3, ft2]; decide +kernel, ftm3, ft2] at h
  exact h
theorem aw_floor (w : World) (hT : Tab w) : Calls Tryz.prog 14 #[.agg #[.string ⟨#[45, 51]⟩, .string ⟨#[50]⟩]] w (OutE w ⟨#[45, 50]⟩ 0) := by
  have h := fFloor (-3) 2 (few3 (by decide)) (few3 (by decide)) (by omega) (by omega) ⟨by omega, by decide⟩ w hT
  rw [show qz (-3) 2 = -2 by decide +kernel, ftm3, ft2, ftm2] at h
  exact h
theorem aw_parse (w : World) (hT : Tab w) (hC : CutT w) : Calls Tryz.prog 23 #[.string ⟨#[52, 47, 50]⟩] w (FrE w ⟨#[]⟩ ⟨#[]⟩ 3) := by
  refine fParse_chk ⟨#[52, 47, 50]⟩ ⟨#[52]⟩ ⟨#[50]⟩ ⟨#[50]⟩ true 3 (by omega) (fun w hC => ?_) (fun w => ?_) (fun w hT => ?_) w hT hC
  · have h := fcut ⟨#[52, 47, 50]⟩ (by decide) w hC
    rw [show Lib.cut (⟨#[52, 47, 50]⟩ : ByteArray).data.toList [47] = ([52], [50], true) by decide +kernel] at h
    exact h
  · exact fparts_ok _ _ _ true (by decide) (by decide) (by decide +kernel) (.inr ⟨rfl, by decide +kernel, by decide +kernel, rfl⟩) w
  · have h := fcheck_any ⟨#[52]⟩ ⟨#[50]⟩ (by decide) (by decide) w hT
    rw [show fchk (⟨#[52]⟩ : ByteArray).data.toList (⟨#[50]⟩ : ByteArray).data.toList = 3 by decide +kernel] at h
    exact h
end Go.Proofs.YtolkiimlchfmlaaGreatDoor

namespace Go.Proofs.YtolkiimlchfmlaaGreatDoor
open Go.RowKit Go.Proofs.Num

theorem stepW {W x y : World} (h : Below W.heap.size W x) (k : Below x.heap.size x y) : Below W.heap.size W y := h.trans (k.mono h.size)
theorem stepW' {w W x : World} (h : Below w.heap.size w W) (k : Below W.heap.size W x) : Below w.heap.size w x := h.trans (k.mono h.size)

set_option maxHeartbeats 6400000 in
set_option maxRecDepth 100000 in
theorem fawake (w : World) (hT : Tab w) (hC : CutT w) : Calls Tryz.prog 11 #[] w fun e w' => e = .returned (.bool true) ∧ Below w.heap.size w w' := by
  have HT := Lib.hid hT
  have HC := Lib.hid hC
  have HH := Lib.hid fhalf
  have H1 := Lib.hid aw_add; have H2 := Lib.hid aw_sub; have H3 := Lib.hid aw_mul; have H4 := Lib.hid aw_div
  have H5 := Lib.hid aw_of; have H6 := Lib.hid aw_text; have H7 := Lib.hid aw_floor; have H8 := Lib.hid aw_parse
  unfold FrE FrV at H1 H2 H3 H4 H5 H8
  unfold OutE at H6 H7
  unfold FrOut FrV at HH
  clear hT hC
  go_enter Tryz.func11, Tryz.ntmps11
  go_wp2_with fail
  refine (HH.out _ _ _).mono ?_
  rintro en wa1 ⟨rfl, hba1⟩
  have hA1 : Below w.heap.size w wa1 := hba1
  go_wp2_with fail
  refine (HH.out _ _ _).mono ?_
  rintro en wb1 ⟨rfl, hbb1⟩
  have hE1 : Below w.heap.size w wb1 := hA1.trans (hbb1.mono hA1.size)
  go_wp2_with fail
  refine (H1.out _ (HT.out.keep hE1)).mono ?_
  rintro en w1 ⟨rfl, hb1⟩
  have hD1 : Below w.heap.size w w1 := hE1.trans (hb1.mono hE1.size)
  obtain ⟨W1, hW1, hR1, hBl1, hsz1⟩ := box1T 24 w1 (.string ⟨#[52]⟩) (.string ⟨#[49, 53]⟩)
  have hB1 : Below w.heap.size w W1 := hD1.trans (hBl1.mono hD1.size)
  clear hba1 hbb1 hb1 hA1 hE1 hD1 hsz1 hBl1
  have HK1 := Lib.hid hR1
  have HW1 := Lib.hid hW1
  clear hR1 hW1
  go_wp2_with fail
  rw [← HW1.out]
  refine (HH.out _ _ _).mono ?_
  rintro en wa2 ⟨rfl, hba2⟩
  have hA2 : Below w.heap.size w wa2 := hB1.trans (hba2.mono hB1.size)
  have hK1 := HK1.out.keep hba2
  go_wp2_with fail
  refine (HH.out _ _ _).mono ?_
  rintro en wb2 ⟨rfl, hbb2⟩
  have hE2 : Below w.heap.size w wb2 := hA2.trans (hbb2.mono hA2.size)
  have hL1 := hK1.keep hbb2
  go_wp2_with fail
  refine (H2.out _ (HT.out.keep hE2)).mono ?_
  rintro en w2 ⟨rfl, hb2⟩
  have hD2 : Below w.heap.size w w2 := hE2.trans (hb2.mono hE2.size)
  obtain ⟨W2, hW2, hR2, hBl2, hsz2⟩ := box1T 24 w2 (.string ⟨#[49]⟩) (.string ⟨#[49, 53]⟩)
  have hB2 : Below w.heap.size w W2 := hD2.trans (hBl2.mono hD2.size)
  have hM1 := (hL1.keep hb2).keep hBl2
  clear hba2 hbb2 hb2 hA2 hE2 hD2 hsz2 hBl2 hB1 hK1 hL1 HK1
  have HK1 := Lib.hid hM1
  clear hM1
  have HK2 := Lib.hid hR2
  have HW2 := Lib.hid hW2
  clear hR2 hW2
  go_wp2_with fail
  rw [← HW2.out]
  refine (HH.out _ _ _).mono ?_
  rintro en wa3 ⟨rfl, hba3⟩
  have hA3 : Below w.heap.size w wa3 := hB2.trans (hba3.mono hB2.size)
  have hK1 := HK1.out.keep hba3
  have hK2 := HK2.out.keep hba3
  go_wp2_with fail
  refine (HH.out _ _ _).mono ?_
  rintro en wb3 ⟨rfl, hbb3⟩
  have hE3 : Below w.heap.size w wb3 := hA3.trans (hbb3.mono hA3.size)
  have hL1 := hK1.keep hbb3
  have hL2 := hK2.keep hbb3
  go_wp2_with fail
  refine (H3.out _ (HT.out.keep hE3)).mono ?_
  rintro en w3 ⟨rfl, hb3⟩
  have hD3 : Below w.heap.size w w3 := hE3.trans (hb3.mono hE3.size)
  obtain ⟨W3, hW3, hR3, hBl3, hsz3⟩ := box1T 24 w3 (.string ⟨#[51]⟩) (.string ⟨#[50]⟩)
  have hB3 : Below w.heap.size w W3 := hD3.trans (hBl3.mono hD3.size)
  have hM1 := (hL1.keep hb3).keep hBl3
  have hM2 := (hL2.keep hb3).keep hBl3
  clear hba3 hbb3 hb3 hA3 hE3 hD3 hsz3 hBl3 hB2 hK1 hL1 HK1 hK2 hL2 HK2
  have HK1 := Lib.hid hM1
  clear hM1
  have HK2 := Lib.hid hM2
  clear hM2
  have HK3 := Lib.hid hR3
  have HW3 := Lib.hid hW3
  clear hR3 hW3
  go_wp2_with fail
  rw [← HW3.out]
  refine (HH.out _ _ _).mono ?_
  rintro en wa4 ⟨rfl, hba4⟩
  have hA4 : Below w.heap.size w wa4 := hB3.trans (hba4.mono hB3.size)
  have hK1 := HK1.out.keep hba4
  have hK2 := HK2.out.keep hba4
  have hK3 := HK3.out.keep hba4
  go_wp2_with fail
  refine (HH.out _ _ _).mono ?_
  rintro en wb4 ⟨rfl, hbb4⟩
  have hE4 : Below w.heap.size w wb4 := hA4.trans (hbb4.mono hA4.size)
  have hL1 := hK1.keep hbb4
  have hL2 := hK2.keep hbb4
  have hL3 := hK3.keep hbb4
  go_wp2_with fail
  refine (H4.out _ (HT.out.keep hE4)).mono ?_
  rintro en w4 ⟨rfl, hb4⟩
  have hD4 : Below w.heap.size w w4 := hE4.trans (hb4.mono hE4.size)
  obtain ⟨W4, hW4, hR4, hBl4, hsz4⟩ := box1T 24 w4 (.string ⟨#[45, 51]⟩) (.string ⟨#[50]⟩)
  have hB4 : Below w.heap.size w W4 := hD4.trans (hBl4.mono hD4.size)
  have hM1 := (hL1.keep hb4).keep hBl4
  have hM2 := (hL2.keep hb4).keep hBl4
  have hM3 := (hL3.keep hb4).keep hBl4
  clear hba4 hbb4 hb4 hA4 hE4 hD4 hsz4 hBl4 hB3 hK1 hL1 HK1 hK2 hL2 HK2 hK3 hL3 HK3
  have HK1 := Lib.hid hM1
  clear hM1
  have HK2 := Lib.hid hM2
  clear hM2
  have HK3 := Lib.hid hM3
  clear hM3
  have HK4 := Lib.hid hR4
  have HW4 := Lib.hid hW4
  clear hR4 hW4
  go_wp2_with fail
  rw [← HW4.out]
  refine (H5.out _ (HT.out.keep hB4)).mono ?_
  rintro en w5 ⟨rfl, hb5⟩
  have hD5 : Below w.heap.size w w5 := hB4.trans (hb5.mono hB4.size)
  obtain ⟨W5, hW5, hR5, hBl5, hsz5⟩ := box1T 24 w5 (.string ⟨#[45, 51]⟩) (.string ⟨#[50]⟩)
  have hB5 : Below w.heap.size w W5 := hD5.trans (hBl5.mono hD5.size)
  have hM1 := (HK1.out.keep hb5).keep hBl5
  have hM2 := (HK2.out.keep hb5).keep hBl5
  have hM3 := (HK3.out.keep hb5).keep hBl5
  have hM4 := (HK4.out.keep hb5).keep hBl5
  clear HK1 HK2 HK3 HK4 hb5 hD5 hsz5 hBl5 hB4
  have HK1 := Lib.hid hM1
  clear hM1
  have HK2 := Lib.hid hM2
  clear hM2
  have HK3 := Lib.hid hM3
  clear hM3
  have HK4 := Lib.hid hM4
  clear hM4
  have HK5 := Lib.hid hR5
  have HW5 := Lib.hid hW5
  have x0 := hR5.c0; have x1 := hR5.c1
  rw [hW5] at x0 x1
  clear hR5 hW5
  go_wp2_with fail
  rw [← HW5.out]
  refine (H6.out _ (HT.out.keep hB5)).mono ?_
  rintro en w6 ⟨rfl, hb6⟩
  have hB6 : Below w.heap.size w w6 := hB5.trans (hb6.mono hB5.size)
  have hM1 := HK1.out.keep hb6
  have hM2 := HK2.out.keep hb6
  have hM3 := HK3.out.keep hb6
  have hM4 := HK4.out.keep hb6
  have hM5 := HK5.out.keep hb6
  clear HK1 HK2 HK3 HK4 HK5 hb6 x0 x1
  have HK1 := Lib.hid hM1
  clear hM1
  have HK2 := Lib.hid hM2
  clear hM2
  have HK3 := Lib.hid hM3
  clear hM3
  have HK4 := Lib.hid hM4
  clear hM4
  have HK5 := Lib.hid hM5
  clear hM5
  have x0 := HK5.out.c0; have x1 := HK5.out.c1
  go_wp2_with fail
  refine (H7.out _ (HT.out.keep hB6)).mono ?_
  rintro en w7 ⟨rfl, hb7⟩
  have hB7 : Below w.heap.size w w7 := hB6.trans (hb7.mono hB6.size)
  have hM1 := HK1.out.keep hb7
  have hM2 := HK2.out.keep hb7
  have hM3 := HK3.out.keep hb7
  have hM4 := HK4.out.keep hb7
  have hM5 := HK5.out.keep hb7
  clear HK1 HK2 HK3 HK4 HK5 hb7 x0 x1
  have HK1 := Lib.hid hM1
  clear hM1
  have HK2 := Lib.hid hM2
  clear hM2
  have HK3 := Lib.hid hM3
  clear hM3
  have HK4 := Lib.hid hM4
  clear hM4
  have HK5 := Lib.hid hM5
  clear hM5
  go_wp2_with fail
  refine (H8.out _ (HT.out.keep hB7) (HC.out.keep hB7)).mono ?_
  rintro en w8 ⟨rfl, hb8⟩
  have hD8 : Below w.heap.size w w8 := hB7.trans (hb8.mono hB7.size)
  obtain ⟨W8, hW8, hR8, hBl8, hsz8⟩ := box1T 24 w8 (.string ⟨#[]⟩) (.string ⟨#[]⟩)
  have hB8 : Below w.heap.size w W8 := hD8.trans (hBl8.mono hD8.size)
  have hM1 := (HK1.out.keep hb8).keep hBl8
  have hM2 := (HK2.out.keep hb8).keep hBl8
  have hM3 := (HK3.out.keep hb8).keep hBl8
  have hM4 := (HK4.out.keep hb8).keep hBl8
  clear HK1 HK2 HK3 HK4 HK5 hb8 hD8 hsz8 hBl8 hR8
  have HI : Hid (∀ u, Below W8.heap.size W8 u → (Below W8.heap.size W8 u ∧ u.cell? ⟨w1.heap.size, 0, none⟩ = some (.string ⟨#[52]⟩) ∧ u.cell? ⟨w1.heap.size, 1, none⟩ = some (.string ⟨#[49, 53]⟩) ∧ u.cell? ⟨w2.heap.size, 0, none⟩ = some (.string ⟨#[49]⟩) ∧ u.cell? ⟨w2.heap.size, 1, none⟩ = some (.string ⟨#[49, 53]⟩) ∧ u.cell? ⟨w3.heap.size, 0, none⟩ = some (.string ⟨#[51]⟩) ∧ u.cell? ⟨w3.heap.size, 1, none⟩ = some (.string ⟨#[50]⟩) ∧ u.cell? ⟨w4.heap.size, 0, none⟩ = some (.string ⟨#[45, 51]⟩) ∧ u.cell? ⟨w4.heap.size, 1, none⟩ = some (.string ⟨#[50]⟩))) := fun u hu => ⟨hu, (hM1.keep hu).c0, (hM1.keep hu).c1, (hM2.keep hu).c0, (hM2.keep hu).c1, (hM3.keep hu).c0, (hM3.keep hu).c1, (hM4.keep hu).c0, (hM4.keep hu).c1⟩
  have HW8 := Lib.hid hW8
  have HB8 := Lib.hid hB8
  clear hW8 hM1 hM2 hM3 hM4
  have hu0 : Below W8.heap.size W8 W8 := Below.refl _ _
  obtain ⟨_, f1, f2, f3, f4, f5, f6, f7, f8⟩ := HI.out _ hu0
  rw [HW8.out] at f1 f2 f3 f4 f5 f6 f7 f8
  go_wp2
  rw [← HW8.out]
  have hu1 : Below W8.heap.size W8 W8.drew := (Below.refl _ _).drew
  obtain ⟨_, d1, d2, d3, d4, d5, d6, d7, d8⟩ := HI.out _ hu1
  clear f1 f2 f3 f4 f5 f6 f7 f8
  obtain ⟨_, f1, f2, f3, f4, f5, f6, f7, f8⟩ := HI.out _ hu0
  go_region_held3 (fun u => Below W8.heap.size W8 u ∧ u.cell? ⟨w1.heap.size, 0, none⟩ = some (.string ⟨#[52]⟩) ∧ u.cell? ⟨w1.heap.size, 1, none⟩ = some (.string ⟨#[49, 53]⟩) ∧ u.cell? ⟨w2.heap.size, 0, none⟩ = some (.string ⟨#[49]⟩) ∧ u.cell? ⟨w2.heap.size, 1, none⟩ = some (.string ⟨#[49, 53]⟩) ∧ u.cell? ⟨w3.heap.size, 0, none⟩ = some (.string ⟨#[51]⟩) ∧ u.cell? ⟨w3.heap.size, 1, none⟩ = some (.string ⟨#[50]⟩) ∧ u.cell? ⟨w4.heap.size, 0, none⟩ = some (.string ⟨#[45, 51]⟩) ∧ u.cell? ⟨w4.heap.size, 1, none⟩ = some (.string ⟨#[50]⟩))
    (first | exact HI.out _ (by assumption) | exact HI.out _ (Below.drew (by assumption)))
    (first | (go_at_call 44; refine (HH.out _ _ _).mono ?_; rintro en wz ⟨rfl, hbz⟩; have hk2 := stepW (by assumption) hbz; obtain ⟨_, g1, g2, g3, g4, g5, g6, g7, g8⟩ := HI.out _ hk2))
  go_wp2
  go_ret
  have hfin := stepW' HB8.out (by assumption)
  exact ⟨rfl, hfin⟩
end Go.Proofs.YtolkiimlchfmlaaGreatDoor
