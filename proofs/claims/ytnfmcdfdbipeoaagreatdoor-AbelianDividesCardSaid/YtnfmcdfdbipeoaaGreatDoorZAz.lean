/- Abelian groups: sums, opposites and multiples of elements, in numbers. -/
import Derived.Test.YtnfmcdfdbipeoaaGreatDoorQ35
import Derived.Test.YtnfmcdfdbipeoaaGreatDoorZAy
namespace Go.Proofs.YtnfmcdfdbipeoaaGreatDoor
open Go.RowKit Go.Proofs.Num


/-- The sum of two elements at a place. -/
def addF (L M G : List ByteArray) (j : Nat) : ByteArray := T (rz (pz (sat L j) + pz (sat M j)) (pz (sat G j)))
def adC (L M G : List ByteArray) : Nat := if gck fck G ≠ 0 then gck fck G else if inC L G ≠ 0 then inC L G else inC M G
def adL (L M G : List ByteArray) : List ByteArray := if adC L M G = 0 then upto (addF L M G) G.length else []
def ngL (L G : List ByteArray) : List ByteArray := if oeC L G = 0 then upto (mulF (-1) L G) G.length else []
def tmC (s : ByteArray) (L G : List ByteArray) : Nat := if gck fck G ≠ 0 then gck fck G else if ck s ≠ 0 then ck s else inC L G
def tmL (s : ByteArray) (L G : List ByteArray) : List ByteArray := if tmC s L G = 0 then upto (mulF (pz s) L G) G.length else []

theorem sum_T {d : Nat} (s t r : ByteArray) (hs : ck s = 0) (ht : ck t = 0) (hr : ck r = 0) (hf : Few d (pz r)) (h1 : 1 ≤ d) (hd : d + 2 ≤ 1024) (hs0 : 0 ≤ pz s) (hs1 : pz s < pz r) (ht0 : 0 ≤ pz t) (ht1 : pz t < pz r) (w : World) (hT : Tab w) :
    Calls Tryz.prog 79 #[.agg #[.string s, .string t], .string r] w (fun e w' => e = .returned (.tuple #[.string (T (rz (pz s + pz t) (pz r))), .int .i64 0]) ∧ Below w.heap.size w w') := by
  have fs : Few d (pz s) := hf.of_le (by omega)
  have ft : Few d (pz t) := hf.of_le (by omega)
  have fd : Few (d + 1) (pz t - pz r) := Few.sub ft hf
  have fa : Few (d + 2) (pz s + (pz t - pz r)) := Few.add (fs.le (by omega)) fd
  refine sum_walk s t r (T (pz t - pz r)) (T (pz s + (pz t - pz r))) _ 0 0 0 (Lib.hid fun w hT => ?_) (Lib.hid fun w hT => ?_) (Lib.hid fun w hT => ?_) w hT
  · have := subT (pz t) (pz r) w ft hf h1 (by omega) hT
    rw [← right_T ht, ← right_T hr] at this
    exact this
  · have := addT (pz s) (pz t - pz r) w (fs.le (show d ≤ d + 1 by omega)) fd (by omega) (by omega) hT
    rw [← right_T hs] at this
    exact this
  · have := remT (pz s + (pz t - pz r)) (pz r) w fa (hf.le (by omega)) (by omega) (by omega) (by omega) hT
    rw [← right_T hr] at this
    have e : rz (pz s + (pz t - pz r)) (pz r) = rz (pz s + pz t) (pz r) := by
      rw [rz_mod _ _ (by omega), rz_mod _ _ (by omega)]
      exact sum_less _ _ _
    rw [e] at this
    exact this
theorem opposite_T {d : Nat} (s r : ByteArray) (hs : ck s = 0) (hr : ck r = 0) (hf : Few d (pz r)) (h1 : 1 ≤ d) (hd : d ≤ 1024) (hs0 : 0 ≤ pz s) (hs1 : pz s < pz r) (w : World) (hT : Tab w) :
    Calls Tryz.prog 82 #[.string s, .string r] w (fun e w' => e = .returned (.tuple #[.string (T (rz (-1 * pz s) (pz r))), .int .i64 0]) ∧ Below w.heap.size w w') := by
  have fs : Few d (pz s) := hf.of_le (by omega)
  refine opposite_walk s r (T (-(pz s))) _ 0 0 (Lib.hid fun w hT => ?_) (Lib.hid fun w hT => ?_) w hT
  · have := negT (pz s) w fs h1 hd hT
    rw [← right_T hs] at this
    exact this
  · have := remT (-(pz s)) (pz r) w fs.neg hf h1 hd (by omega) hT
    rw [← right_T hr] at this
    rw [show -1 * pz s = -(pz s) by omega]
    exact this
theorem multiple_T {d : Nat} (k s r : ByteArray) (hk : ck k = 0) (hs : ck s = 0) (hr : ck r = 0) (hf : Few d (pz r)) (h1 : 1 ≤ d) (hd : d + d ≤ 1024) (hs0 : 0 ≤ pz s) (hs1 : pz s < pz r) (w : World) (hT : Tab w) :
    Calls Tryz.prog 86 #[.string k, .string s, .string r] w (fun e w' => e = .returned (.tuple #[.string (T (rz (pz k * pz s) (pz r))), .int .i64 0]) ∧ Below w.heap.size w w') := by
  have fs : Few d (pz s) := hf.of_le (by omega)
  have fk : Few d (rz (pz k) (pz r)) := rz_small hf (by omega)
  refine multiple_walk k s r (T (rz (pz k) (pz r))) (T (rz (pz k) (pz r) * pz s)) _ 0 0 (Lib.hid fun w hT => rem_right k r hk hr (by omega) w hT) (Lib.hid fun w hT => ?_) (Lib.hid fun w hT => ?_) w hT
  · have := mulT (rz (pz k) (pz r)) (pz s) w fk fs h1 hd hT
    rw [← right_T hs] at this
    exact this
  · have := remT (rz (pz k) (pz r) * pz s) (pz r) w (fk.mul fs) (hf.le (by omega)) (by omega) hd (by omega) hT
    rw [← right_T hr] at this
    have e : rz (rz (pz k) (pz r) * pz s) (pz r) = rz (pz k * pz s) (pz r) := by
      rw [rz_mod _ _ (by omega), rz_mod _ _ (by omega), rz_mod _ _ (by omega)]
      exact mul_mod _ _ _
    rw [e] at this
    exact this
theorem in_range {L G : List ByteArray} (hG : gck fck G = 0) (h : inC L G = 0) (j : Nat) (hj : j < G.length) : ck (sat L j) = 0 ∧ 0 ≤ pz (sat L j) ∧ pz (sat L j) < pz (sat G j) := by
  have h1 := (in_right h).2 j hj
  exact ⟨h1.1, (rz_self _ _ (by have := (right_at hG j hj).2; omega)).1 h1.2⟩

theorem neg_any' (a b : Option Addr) (cap c1 : Nat) (L G : List ByteArray) (hf : fewG G = true) (hsz : ∀ j, j < G.length → (sat G j).size ≤ 9223372036854775807) (hsz2 : ∀ j, j < L.length → (sat L j).size ≤ 9223372036854775807) (w : World) (h : TsAt w a G) (h2 : TsAt w b L) (hT : Tab w) :
    Calls Tryz.prog 34 #[.slice a G.length cap, .slice b L.length c1] w (GivesTs w (ngL L G) ((oeC L G : Nat) : Int)) := by
  have HC := Lib.hid (fun w h hT => gcheck_any a cap G (fun _ => hsz) w h hT)
  unfold ngL
  by_cases h0 : gck fck G = 0
  · have e : oeC L G = inC L G := by unfold oeC; rw [if_neg (by simp [h0])]
    rw [h0] at HC
    rw [e]
    have HI := Lib.hid (fun w h h2 hT => inck_any a b cap c1 L G h0 hsz hsz2 w h h2 hT)
    have hs := short_right h0 hf
    obtain ⟨d, hd⟩ : ∃ d : Nat, d = 30 := ⟨_, rfl⟩
    rw [← hd] at hs
    by_cases h1 : inC L G = 0
    · rw [if_pos h1, h1]
      rw [h1] at HI
      have hin := in_right h1
      refine negE_ok a b cap c1 L G _ HC HI (Lib.hid fun w hb ha hT => ?_) w h h2 hT
      refine comb_opposite_ok b a c1 cap L G hin.1 (by omega) (mulF (-1) L G) (Lib.hid fun j hj w hT => ?_) w hb ha hT
      have hr := in_range h0 h1 j hj
      exact opposite_T (d := d) (sat L j) (sat G j) hr.1 (right_at h0 j hj).1 (hs.2 j hj) (by omega) (by omega) hr.2.1 hr.2.2 w hT
    · rw [if_neg h1]
      exact (negE_in a b cap c1 L G _ h1 HC HI w h h2 hT).mono fun e w' h => GivesTs.of_nil h
  · have e : oeC L G = gck fck G := by unfold oeC; rw [if_pos h0]
    rw [e, if_neg h0]
    exact (negE_err a b cap c1 L G _ h0 HC w h hT).mono fun e w' h => GivesTs.of_nil h

theorem add_any' (a b d' : Option Addr) (cap c1 c2 : Nat) (L M G : List ByteArray) (hf : fewG G = true) (hsz : ∀ j, j < G.length → (sat G j).size ≤ 9223372036854775807) (hsz2 : ∀ j, j < L.length → (sat L j).size ≤ 9223372036854775807) (hsz3 : ∀ j, j < M.length → (sat M j).size ≤ 9223372036854775807) (w : World) (h : TsAt w a G) (h2 : TsAt w b L) (h3 : TsAt w d' M) (hT : Tab w) :
    Calls Tryz.prog 32 #[.slice a G.length cap, .slice b L.length c1, .slice d' M.length c2] w (GivesTs w (adL L M G) ((adC L M G : Nat) : Int)) := by
  have HC := Lib.hid (fun w h hT => gcheck_any a cap G (fun _ => hsz) w h hT)
  unfold adL
  by_cases h0 : gck fck G = 0
  · rw [h0] at HC
    have HI := Lib.hid (fun w h h2 hT => inck_any a b cap c1 L G h0 hsz hsz2 w h h2 hT)
    have HI3 := Lib.hid (fun w h h3 hT => inck_any a d' cap c2 M G h0 hsz hsz3 w h h3 hT)
    have hs := short_right h0 hf
    obtain ⟨d, hd⟩ : ∃ d : Nat, d = 30 := ⟨_, rfl⟩
    rw [← hd] at hs
    by_cases h1 : inC L G = 0
    · rw [h1] at HI
      have e : adC L M G = inC M G := by unfold adC; rw [if_neg (by simp [h0]), if_neg (by simp [h1])]
      rw [e]
      have hin := in_right h1
      by_cases h1' : inC M G = 0
      · rw [if_pos h1', h1']
        rw [h1'] at HI3
        have hin2 := in_right h1'
        refine addE_ok a b d' cap c1 c2 L M G _ HC HI HI3 G.length (sat L) (sat M) (Lib.hid fun w hb hd => ?_) (Lib.hid fun w a' c' hp ha hT => ?_) w h h2 h3 hT
        · have := comb_pairs b d' c1 c2 G.length L M hin.1 hin2.1 (by omega) w hb hd
          rw [hin.1, hin2.1]
          exact this
        · refine comb_sum a' a c' cap (sat L) (sat M) G (by omega) (addF L M G) (Lib.hid fun j hj w hT => ?_) w hp ha hT
          have hr := in_range h0 h1 j hj
          have hr2 := in_range h0 h1' j hj
          exact sum_T (d := d) (sat L j) (sat M j) (sat G j) hr.1 hr2.1 (right_at h0 j hj).1 (hs.2 j hj) (by omega) (by omega) hr.2.1 hr.2.2 hr2.2.1 hr2.2.2 w hT
      · rw [if_neg h1']
        exact (addE_in2 a b d' cap c1 c2 L M G _ h1' HC HI HI3 w h h2 h3 hT).mono fun e w' h => GivesTs.of_nil h
    · have e : adC L M G = inC L G := by unfold adC; rw [if_neg (by simp [h0]), if_pos h1]
      rw [e, if_neg h1]
      exact (addE_in a b d' cap c1 c2 L M G _ h1 HC HI w h h2 hT).mono fun e w' h => GivesTs.of_nil h
  · have e : adC L M G = gck fck G := by unfold adC; rw [if_pos h0]
    rw [e, if_neg h0]
    exact (addE_err a b d' cap c1 c2 L M G _ h0 HC w h hT).mono fun e w' h => GivesTs.of_nil h

theorem times_any' (a b : Option Addr) (cap c1 : Nat) (L G : List ByteArray) (s : ByteArray) (hf : fewG G = true) (hsz : ∀ j, j < G.length → (sat G j).size ≤ 9223372036854775807) (hsz2 : ∀ j, j < L.length → (sat L j).size ≤ 9223372036854775807) (hs2 : s.size ≤ 9223372036854775807) (w : World) (h : TsAt w a G) (h2 : TsAt w b L) (hT : Tab w) :
    Calls Tryz.prog 36 #[.slice a G.length cap, .string s, .slice b L.length c1] w (GivesTs w (tmL s L G) ((tmC s L G : Nat) : Int)) := by
  have HC := Lib.hid (fun w h hT => gcheck_any a cap G (fun _ => hsz) w h hT)
  have HK := Lib.hid (fun w => (check_any s w hs2).mono (R' := fun e w' => e = .returned (.int .i64 ((ck s : Nat) : Int)) ∧ Below w.heap.size w w') (by rintro e w' ⟨rfl, rfl⟩; exact ⟨rfl, Below.refl _ _⟩))
  unfold tmL
  by_cases h0 : gck fck G = 0
  · rw [h0] at HC
    have HI := Lib.hid (fun w h h2 hT => inck_any a b cap c1 L G h0 hsz hsz2 w h h2 hT)
    have hs := short_right h0 hf
    obtain ⟨d, hd⟩ : ∃ d : Nat, d = 30 := ⟨_, rfl⟩
    rw [← hd] at hs
    by_cases hk : ck s = 0
    · have e : tmC s L G = inC L G := by unfold tmC; rw [if_neg (by simp [h0]), if_neg (by simp [hk])]
      rw [hk] at HK
      rw [e]
      by_cases h1 : inC L G = 0
      · rw [if_pos h1, h1]
        rw [h1] at HI
        have hin := in_right h1
        refine timesE_ok a b cap c1 L G s _ HC HK HI (Lib.hid fun w kb hb ha hT => ?_) w h h2 hT
        refine comb_times_ok b a c1 cap L G hin.1 (by omega) kb s (mulF (pz s) L G) (Lib.hid fun j hj w hT => ?_) w hb ha hT
        have hr := in_range h0 h1 j hj
        exact times1_any (sat L j) (sat G j) s _ 0 kb (Lib.hid fun w hT => multiple_T (d := d) s (sat L j) (sat G j) hk hr.1 (right_at h0 j hj).1 (hs.2 j hj) (by omega) (by omega) hr.2.1 hr.2.2 w hT) w hT
      · rw [if_neg h1]
        exact (timesE_in a b cap c1 L G s _ h1 HC HK HI w h h2 hT).mono fun e w' h => GivesTs.of_nil h
    · have e : tmC s L G = ck s := by unfold tmC; rw [if_neg (by simp [h0]), if_pos hk]
      rw [e, if_neg hk]
      exact (timesE_arg a b cap c1 L G s _ hk HC HK w h hT).mono fun e w' h => GivesTs.of_nil h
  · have e : tmC s L G = gck fck G := by unfold tmC; rw [if_pos h0]
    rw [e, if_neg h0]
    exact (timesE_err a b cap c1 L G s _ h0 HC w h hT).mono fun e w' h => GivesTs.of_nil h

theorem rneg_any' (a b : Option Addr) (cap c1 : Nat) (L G : List ByteArray) (hsz : ∀ j, j < G.length → (sat G j).size ≤ 9223372036854775807) (hsz2 : ∀ j, j < L.length → (sat L j).size ≤ 9223372036854775807) (w : World) (h : TsAt w a G) (h2 : TsAt w b L) :
    Calls Tryz.prog 35 #[.slice a G.length cap, .slice b L.length c1] w (GivesTs w (ngL L G) ((oeC L G : Nat) : Int)) := by
  have HC := Lib.hid (fun w h => rgcheck_any a cap G (fun _ => hsz) w h)
  unfold ngL
  by_cases h0 : gck fck G = 0
  · have e : oeC L G = inC L G := by unfold oeC; rw [if_neg (by simp [h0])]
    rw [h0] at HC
    rw [e]
    have HI := Lib.hid (fun w h h2 => rinck_any a b cap c1 L G h0 hsz2 w h h2)
    obtain ⟨d, hd⟩ : ∃ d : Nat, d = 1024 := ⟨_, rfl⟩
    have hl := (gck_right h0).1
    by_cases h1 : inC L G = 0
    · rw [if_pos h1, h1]
      rw [h1] at HI
      have hin := in_right h1
      refine rnegE_ok a b cap c1 L G _ HC HI (Lib.hid fun w ha hb => ?_) w h h2
      rw [hin.1]
      refine rmultiple a b cap c1 G L (by omega) ⟨#[45, 49]⟩ (mulF (-1) L G) (fun j => T (-1 * pz (sat L j))) (Lib.hid fun j hj w => ?_) (Lib.hid fun j hj w => ?_) w ha hb hin.1
      · have := rtimes_any (-1) (pz (sat L j)) (d := d) (e := d) ((few_small (z := -1) (by decide)).le (by omega)) (right_few (hin.2 j hj).1 d hd) (by omega) (by omega) (by omega) (by omega) w
        rw [← right_T (hin.2 j hj).1, show T (-1) = ⟨#[45, 49]⟩ from ts_T (by decide +kernel)] at this
        exact this
      · have hg := right_at h0 j hj
        have := rrest_any (d := d) (-1 * pz (sat L j)) (pz (sat G j)) (by rw [show -1 * pz (sat L j) = -(pz (sat L j)) by omega]; exact (right_few (hin.2 j hj).1 d hd).neg) (right_few hg.1 d hd) (by omega) (by omega) (by omega) w
        rw [← right_T hg.1] at this
        exact this
    · rw [if_neg h1]
      exact (rnegE_in a b cap c1 L G _ h1 HC HI w h h2).mono fun e w' h => GivesTs.of_nil h
  · have e : oeC L G = gck fck G := by unfold oeC; rw [if_pos h0]
    rw [e, if_neg h0]
    exact (rnegE_err a b cap c1 L G _ h0 HC w h).mono fun e w' h => GivesTs.of_nil h

theorem radd_any' (a b d' : Option Addr) (cap c1 c2 : Nat) (L M G : List ByteArray) (hsz : ∀ j, j < G.length → (sat G j).size ≤ 9223372036854775807) (hsz2 : ∀ j, j < L.length → (sat L j).size ≤ 9223372036854775807) (hsz3 : ∀ j, j < M.length → (sat M j).size ≤ 9223372036854775807) (w : World) (h : TsAt w a G) (h2 : TsAt w b L) (h3 : TsAt w d' M) :
    Calls Tryz.prog 33 #[.slice a G.length cap, .slice b L.length c1, .slice d' M.length c2] w (GivesTs w (adL L M G) ((adC L M G : Nat) : Int)) := by
  have HC := Lib.hid (fun w h => rgcheck_any a cap G (fun _ => hsz) w h)
  unfold adL
  by_cases h0 : gck fck G = 0
  · rw [h0] at HC
    have HI := Lib.hid (fun w h h2 => rinck_any a b cap c1 L G h0 hsz2 w h h2)
    have HI3 := Lib.hid (fun w h h3 => rinck_any a d' cap c2 M G h0 hsz3 w h h3)
    obtain ⟨d, hd⟩ : ∃ d : Nat, d = 1024 := ⟨_, rfl⟩
    have hl := (gck_right h0).1
    by_cases h1 : inC L G = 0
    · rw [h1] at HI
      have e : adC L M G = inC M G := by unfold adC; rw [if_neg (by simp [h0]), if_neg (by simp [h1])]
      rw [e]
      have hin := in_right h1
      by_cases h1' : inC M G = 0
      · rw [if_pos h1', h1']
        rw [h1'] at HI3
        have hin2 := in_right h1'
        refine raddE_ok a b d' cap c1 c2 L M G _ HC HI HI3 (Lib.hid fun w ha hb hd' => ?_) w h h2 h3
        rw [hin.1, hin2.1]
        refine rplus a b d' cap c1 c2 G L M (by omega) (addF L M G) (fun j => T (pz (sat L j) + pz (sat M j))) (Lib.hid fun j hj w => ?_) (Lib.hid fun j hj w => ?_) w ha hb hin.1 hd' hin2.1
        · have := rplus_any (pz (sat L j)) (pz (sat M j)) (right_few (hin.2 j hj).1 d hd) (right_few (hin2.2 j hj).1 d hd) (by omega) (by omega) w
          rw [← right_T (hin.2 j hj).1, ← right_T (hin2.2 j hj).1] at this
          exact this
        · have hg := right_at h0 j hj
          have := rrest_any (pz (sat L j) + pz (sat M j)) (pz (sat G j)) (Few.add (right_few (hin.2 j hj).1 d hd) (right_few (hin2.2 j hj).1 d hd)) ((right_few hg.1 d hd).le (by omega)) (by omega) (by omega) (by omega) w
          rw [← right_T hg.1] at this
          exact this
      · rw [if_neg h1']
        exact (raddE_in2 a b d' cap c1 c2 L M G _ h1' HC HI HI3 w h h2 h3).mono fun e w' h => GivesTs.of_nil h
    · have e : adC L M G = inC L G := by unfold adC; rw [if_neg (by simp [h0]), if_pos h1]
      rw [e, if_neg h1]
      exact (raddE_in a b d' cap c1 c2 L M G _ h1 HC HI w h h2).mono fun e w' h => GivesTs.of_nil h
  · have e : adC L M G = gck fck G := by unfold adC; rw [if_pos h0]
    rw [e, if_neg h0]
    exact (raddE_err a b d' cap c1 c2 L M G _ h0 HC w h).mono fun e w' h => GivesTs.of_nil h

theorem rtimes_any' (a b : Option Addr) (cap c1 : Nat) (L G : List ByteArray) (s : ByteArray) (hsz : ∀ j, j < G.length → (sat G j).size ≤ 9223372036854775807) (hsz2 : ∀ j, j < L.length → (sat L j).size ≤ 9223372036854775807) (hs2 : s.size ≤ 9223372036854775807) (w : World) (h : TsAt w a G) (h2 : TsAt w b L) :
    Calls Tryz.prog 37 #[.slice a G.length cap, .string s, .slice b L.length c1] w (GivesTs w (tmL s L G) ((tmC s L G : Nat) : Int)) := by
  have HC := Lib.hid (fun w h => rgcheck_any a cap G (fun _ => hsz) w h)
  have HK := Lib.hid (fun w => rcheck_right s hs2 w)
  unfold tmL
  by_cases h0 : gck fck G = 0
  · rw [h0] at HC
    have HI := Lib.hid (fun w h h2 => rinck_any a b cap c1 L G h0 hsz2 w h h2)
    obtain ⟨d, hd⟩ : ∃ d : Nat, d = 1024 := ⟨_, rfl⟩
    have hl := (gck_right h0).1
    by_cases hk : ck s = 0
    · have e : tmC s L G = inC L G := by unfold tmC; rw [if_neg (by simp [h0]), if_neg (by simp [hk])]
      rw [hk] at HK
      rw [e]
      by_cases h1 : inC L G = 0
      · rw [if_pos h1, h1]
        rw [h1] at HI
        have hin := in_right h1
        refine rtimesE_ok a b cap c1 L G s _ HC HK HI (Lib.hid fun w ha hb => ?_) w h h2
        rw [hin.1]
        refine rmultiple a b cap c1 G L (by omega) s (mulF (pz s) L G) (fun j => T (pz s * pz (sat L j))) (Lib.hid fun j hj w => ?_) (Lib.hid fun j hj w => ?_) w ha hb hin.1
        · have := rtimes_any (pz s) (pz (sat L j)) (right_few hk d hd) (right_few (hin.2 j hj).1 d hd) (by omega) (by omega) (by omega) (by omega) w
          rw [← right_T (hin.2 j hj).1, ← right_T hk] at this
          exact this
        · have hg := right_at h0 j hj
          have := rrest_any (d := d + d) (pz s * pz (sat L j)) (pz (sat G j)) ((right_few hk d hd).mul (right_few (hin.2 j hj).1 d hd)) ((right_few hg.1 d hd).le (by omega)) (by omega) (by omega) (by omega) w
          rw [← right_T hg.1] at this
          exact this
      · rw [if_neg h1]
        exact (rtimesE_in a b cap c1 L G s _ h1 HC HK HI w h h2).mono fun e w' h => GivesTs.of_nil h
    · have e : tmC s L G = ck s := by unfold tmC; rw [if_neg (by simp [h0]), if_pos hk]
      rw [e, if_neg hk]
      exact (rtimesE_arg a b cap c1 L G s _ hk HC HK w h).mono fun e w' h => GivesTs.of_nil h
  · have e : tmC s L G = gck fck G := by unfold tmC; rw [if_pos h0]
    rw [e, if_neg h0]
    exact (rtimesE_err a b cap c1 L G s _ h0 HC w h).mono fun e w' h => GivesTs.of_nil h

end Go.Proofs.YtnfmcdfdbipeoaaGreatDoor
