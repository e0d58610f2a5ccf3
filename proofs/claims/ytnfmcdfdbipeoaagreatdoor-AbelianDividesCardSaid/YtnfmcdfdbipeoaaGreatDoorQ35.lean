/- Abelian groups: residues, orders of elements, counts, in numbers. And: Abelian groups: the examples of the chapter. -/
import Derived.Test.YtnfmcdfdbipeoaaGreatDoorQ31
import Derived.Test.YtnfmcdfdbipeoaaGreatDoorQ32
import Derived.Test.YtnfmcdfdbipeoaaGreatDoorQ34
namespace Go.Proofs.YtnfmcdfdbipeoaaGreatDoor
open Go.RowKit Go.Proofs.Num

theorem nat_od (m a k : Nat) (hm : 0 < m) : m ∣ k * a ↔ m / Nat.gcd a m ∣ k := by
  have hg : 0 < Nat.gcd a m := Nat.gcd_pos_of_pos_right _ hm
  obtain ⟨x, hx⟩ := Nat.gcd_dvd_right a m
  obtain ⟨y, hy⟩ := Nat.gcd_dvd_left a m
  have hco : Nat.Coprime x y := by
    have h1 : Nat.gcd (Nat.gcd a m * y) (Nat.gcd a m * x) = Nat.gcd a m := by rw [← hx, ← hy]
    rw [Nat.gcd_mul_left] at h1
    have h2 : Nat.gcd y x = 1 := Nat.eq_of_mul_eq_mul_left hg (by rw [h1, Nat.mul_one])
    rw [Nat.Coprime, Nat.gcd_comm]; exact h2
  rw [show m / Nat.gcd a m = x from Nat.div_eq_of_eq_mul_right hg hx]
  generalize Nat.gcd a m = g at *
  subst hx hy
  rw [show k * (g * y) = g * (k * y) by rw [Nat.mul_left_comm]]
  constructor
  · intro h
    exact hco.dvd_of_dvd_mul_right (Nat.dvd_of_mul_dvd_mul_left hg h)
  · intro h
    exact Nat.mul_dvd_mul_left g (Nat.dvd_trans h (Nat.dvd_mul_right _ _))

theorem lcm_div (m n : Nat) (_ : 0 < m) : m / Nat.gcd m n * n = Nat.lcm m n := by
  unfold Nat.lcm
  rw [Nat.mul_comm m n, Nat.mul_div_assoc _ (Nat.gcd_dvd_left m n), Nat.mul_comm]

/-- The order of a residue. -/
def od (a f : Int) : Nat := f.natAbs / Nat.gcd a.natAbs f.natAbs

theorem od_spec (a f : Int) (hf : 0 < f) (k : Nat) : ((k : Int) * a) % f = 0 ↔ od a f ∣ k := by
  unfold od
  rw [← nat_od _ _ _ (by omega), ← Int.dvd_iff_emod_eq_zero, ← Int.natAbs_dvd_natAbs, Int.natAbs_mul, Int.natAbs_natCast]

theorem od_pos (a f : Int) (hf : 0 < f) : 0 < od a f := by
  unfold od
  exact Nat.div_pos (Nat.le_of_dvd (by omega) (Nat.gcd_dvd_right _ _)) (Nat.gcd_pos_of_pos_right _ (by omega))

theorem od_dvd (a f : Int) : od a f ∣ f.natAbs := by
  unfold od
  exact Nat.div_dvd_of_dvd (Nat.gcd_dvd_right _ _)

theorem sum_comm (a b f : Int) : (a + b) % f = (b + a) % f := by rw [Int.add_comm]
theorem sum_less (a b f : Int) : (a + (b - f)) % f = (a + b) % f := by
  rw [show a + (b - f) = a + b - f by omega, Int.sub_emod_right]
theorem sum_assoc (a b c f : Int) : ((a + b) % f + c) % f = (a + (b + c) % f) % f := by
  rw [Int.emod_add_emod, Int.add_emod_emod, Int.add_assoc]
theorem sum_neg (a b f : Int) (h0 : 0 ≤ b) (h1 : b < f) : ((a + b) % f + (-a) % f) % f = b := by
  rw [Int.emod_add_emod, Int.add_emod_emod, show a + b + -a = b by omega, Int.emod_eq_of_lt h0 h1]
theorem mul_mod (k a f : Int) : (k % f * a) % f = (k * a) % f := by rw [Int.mul_emod, Int.emod_emod, ← Int.mul_emod]
theorem mul_sum (k a b f : Int) : (k * ((a + b) % f)) % f = ((k * a) % f + (k * b) % f) % f := by
  rw [Int.mul_emod k, Int.emod_emod, ← Int.mul_emod, Int.emod_add_emod, Int.add_emod_emod, Int.mul_add]

theorem rz_mod (x f : Int) (hf : 0 < f) : rz x f = x % f := by
  unfold rz qz
  rw [if_neg (by omega), Int.emod_def]
theorem rz_range (x f : Int) (hf : 0 < f) : 0 ≤ rz x f ∧ rz x f < f := by
  rw [rz_mod x f hf]; exact ⟨Int.emod_nonneg _ (by omega), Int.emod_lt_of_pos _ hf⟩
theorem rz_self (x f : Int) (hf : 0 < f) : rz x f = x ↔ 0 ≤ x ∧ x < f := by
  constructor
  · intro h; have := rz_range x f hf; omega
  · rintro ⟨h0, h1⟩; rw [rz_mod x f hf]; exact Int.emod_eq_of_lt h0 h1
theorem qz_nat (x y : Nat) (_ : y ≠ 0) : qz (x : Int) (y : Int) = ((x / y : Nat) : Int) := by
  unfold qz
  rw [if_neg (by omega)]
  rfl
/-- A right text of few signs has few digits. -/
theorem few_size (s : ByteArray) (h : ck s = 0) (d : Nat) (hd : s.size ≤ d) : Few d (pz s) := by
  have h1 := (chk_cases _ h).1
  have h3 := body_length (Lib.itoa (parse s.data.toList))
  rw [itoa_body, Lib.decDigits_length, h1, size_toList] at h3
  show (parse s.data.toList).natAbs < 10 ^ d
  exact Nat.lt_of_lt_of_le (Lib.lt_pow_nDigits _) (Nat.pow_le_pow_right (by omega) (by omega))
/-- The factors of a right group that is short. -/
theorem short_right {G : List ByteArray} (h : gck fck G = 0) (hf : fewG G = true) : G.length ≤ 8 ∧ ∀ j, j < G.length → Few 30 (pz (sat G j)) := by
  unfold fewG at hf
  simp only [Bool.and_eq_true, decide_eq_true_eq] at hf
  have h1 := gck_right h
  have h2 : G.length ≤ 8 := by
    have := hf.2
    unfold lenOk at this
    simp only [Bool.or_eq_true, Bool.and_eq_true, decide_eq_true_eq] at this
    omega
  refine ⟨h2, fun j hj => ?_⟩
  have h3 := hf.1 j hj (by omega)
  have h4 := (right_at h j hj).1
  unfold okf at h3
  simp only [Bool.or_eq_true, Bool.and_eq_true, decide_eq_true_eq] at h3
  rcases h3 with h3 | ⟨_, h3⟩
  · exact few_size _ h4 30 h3
  · exact absurd h4 h3

/-- The first error of a series. -/
def fer (e : Nat → Nat) : Nat → Nat
  | 0 => 0
  | n + 1 => if fer e n ≠ 0 then fer e n else e n
theorem fer_ways (e : Nat → Nat) : ∀ n, (fer e n = 0 ∧ ∀ j, j < n → e j = 0) ∨ ∃ q, q < n ∧ (∀ j, j < q → e j = 0) ∧ e q ≠ 0 ∧ fer e n = e q
  | 0 => .inl ⟨rfl, fun j hj => by omega⟩
  | n + 1 => by
    unfold fer
    rcases fer_ways e n with ⟨h, h1⟩ | ⟨q, hq, h1, h2, h3⟩
    · rw [h]
      by_cases h2 : e n = 0
      · exact .inl ⟨by simp [h2], fun j hj => by rcases Nat.lt_succ_iff_lt_or_eq.1 hj with h3 | rfl; exact h1 j h3; exact h2⟩
      · exact .inr ⟨n, by omega, h1, h2, by simp⟩
    · exact .inr ⟨q, by omega, h1, h2, by rw [if_pos (by omega)]; exact h3⟩
/-- The error of a residue. -/
def ie (L G : List ByteArray) (j : Nat) : Nat := if ck (sat L j) ≠ 0 then ck (sat L j) else if rz (pz (sat L j)) (pz (sat G j)) ≠ pz (sat L j) then 2 else 0
/-- The error of an element. -/
def inC (L G : List ByteArray) : Nat := if L.length ≠ G.length then 8 else fer (ie L G) G.length
theorem ie_zero {L G : List ByteArray} {j : Nat} (h : ie L G j = 0) : ck (sat L j) = 0 ∧ rz (pz (sat L j)) (pz (sat G j)) = pz (sat L j) := by
  unfold ie at h
  by_cases h1 : ck (sat L j) = 0
  · rw [if_neg (by simp [h1])] at h
    by_cases h2 : rz (pz (sat L j)) (pz (sat G j)) = pz (sat L j)
    · exact ⟨h1, h2⟩
    · rw [if_pos h2] at h; omega
  · rw [if_pos h1] at h; exact absurd h h1
theorem in_right {L G : List ByteArray} (h : inC L G = 0) : L.length = G.length ∧ ∀ j, j < G.length → ck (sat L j) = 0 ∧ rz (pz (sat L j)) (pz (sat G j)) = pz (sat L j) := by
  unfold inC at h
  by_cases h1 : L.length = G.length
  · rw [if_neg (by simp [h1])] at h
    rcases fer_ways (ie L G) G.length with ⟨_, h3⟩ | ⟨q, _, _, h4, h5⟩
    · exact ⟨h1, fun j hj => ie_zero (h3 j hj)⟩
    · omega
  · rw [if_pos h1] at h; omega

theorem residue_any (s r : ByteArray) (hr : ck r = 0) (h0 : pz r ≠ 0) (h : ck s = 0) (h1 : rz (pz s) (pz r) = pz s) (w : World) (hT : Tab w) :
    Calls Tryz.prog 117 #[.string s, .string r] w (fun e w' => e = .returned (.tuple #[.string s, .int .i64 0]) ∧ Below w.heap.size w w') :=
  residue_ok s r (Lib.hid fun w hT => by have := rem_right s r h hr h0 w hT; rw [h1, ← right_T h] at this; exact this) w hT
theorem inck_any (a b : Option Addr) (cap cap2 : Nat) (L G : List ByteArray) (hG : gck fck G = 0) (hsz : ∀ j, j < G.length → (sat G j).size ≤ 9223372036854775807) (hsz2 : ∀ j, j < L.length → (sat L j).size ≤ 9223372036854775807) (w : World) (h : TsAt w a G) (h2 : TsAt w b L) (hT : Tab w) :
    Calls Tryz.prog 75 #[.slice a G.length cap, .slice b L.length cap2] w (fun e w' => e = .returned (.int .i64 ((inC L G : Nat) : Int)) ∧ Below w.heap.size w w') := by
  have hl := (gck_right hG).1
  by_cases hn : L.length = G.length
  · have e : inC L G = fer (ie L G) G.length := by unfold inC; rw [if_neg (by simp [hn])]
    rw [e]
    have HR : ∀ j, j < G.length → ie L G j = 0 → ∀ w, Tab w → Calls Tryz.prog 117 #[.string (sat L j), .string (sat G j)] w (fun e w' => e = .returned (.tuple #[.string (sat L j), .int .i64 0]) ∧ Below w.heap.size w w') := fun j hj h0 w hT =>
      residue_any _ _ (right_at hG j hj).1 (by have := (right_at hG j hj).2; omega) (ie_zero h0).1 (ie_zero h0).2 w hT
    rcases fer_ways (ie L G) G.length with ⟨e1, h3⟩ | ⟨q, hq, h3, h4, e1⟩
    · rw [e1]
      exact inck_ok a b cap cap2 L G _ (Lib.hid fun w hb ha hT => comb_residue_ok b a cap2 cap L G hn (by omega) (sat L) (Lib.hid fun j hj w hT => HR j hj (h3 j hj) w hT) w hb ha hT) w h h2 hT
    · rw [e1]
      have hr := right_at hG q hq
      have HB : ∃ X, ∀ w, Tab w → Calls Tryz.prog 117 #[.string (sat L q), .string (sat G q)] w (fun e w' => e = .returned (.tuple #[.string X, .int .i64 ((ie L G q : Nat) : Int)]) ∧ Below w.heap.size w w') := by
        by_cases hc : ck (sat L q) = 0
        · have h5 : rz (pz (sat L q)) (pz (sat G q)) ≠ pz (sat L q) := by
            intro h5
            apply h4
            unfold ie
            rw [if_neg (by simp [hc]), if_neg (by simp [h5])]
          have e2 : ie L G q = 2 := by unfold ie; rw [if_neg (by simp [hc]), if_pos h5]
          rw [e2]
          refine ⟨_, fun w hT => residue_other (sat L q) (sat G q) (T (rz (pz (sat L q)) (pz (sat G q)))) (fun h6 => h5 ?_) (Lib.hid fun w hT => rem_right _ _ hc hr.1 (by omega) w hT) w hT⟩
          rw [← pz_T (rz (pz (sat L q)) (pz (sat G q))), h6]
        · have e2 : ie L G q = ck (sat L q) := by unfold ie; rw [if_pos hc]
          rw [e2]
          exact ⟨_, fun w hT => residue_err (sat L q) (sat G q) _ hc _ (Lib.hid fun w _ => rem_err_any _ _ (hsz2 q (by omega)) (hsz q hq) hc w) w hT⟩
      obtain ⟨X, HB⟩ := HB
      exact inck_bad a b cap cap2 L G _ (Lib.hid fun w hb ha hT => comb_residue_bad b a cap2 cap L G hn (by omega) q hq _ h4 X (sat L) (Lib.hid fun j hj w hT => HR j (by omega) (h3 j hj) w hT) (Lib.hid HB) w hb ha hT) w h h2 hT
  · have e : inC L G = 8 := by unfold inC; rw [if_pos hn]
    rw [e]
    exact inck_bad a b cap cap2 L G 8 (Lib.hid fun w _ _ _ => comb_residue_shape b a L.length G.length cap2 cap hn w) w h h2 hT

/-- The order of a residue. -/
theorem order_T {d : Nat} (x y : Int) (hx : Few d x) (hy : Few d y) (hy0 : 0 < y) (h1 : 1 ≤ d) (hd : d ≤ 1024) (w : World) (hT : Tab w) :
    Calls Tryz.prog 90 #[.string (T x), .string (T y)] w (fun e w' => e = .returned (.tuple #[.string (T ((od x y : Nat) : Int)), .int .i64 0]) ∧ Below w.heap.size w w') := by
  have hg : 0 < Nat.gcd x.natAbs y.natAbs := Nat.gcd_pos_of_pos_right _ (by omega)
  have hgle : Nat.gcd x.natAbs y.natAbs ≤ y.natAbs := Nat.le_of_dvd (by omega) (Nat.gcd_dvd_right _ _)
  refine order_walk (T x) (T y) (T ((Nat.gcd x.natAbs y.natAbs : Nat) : Int)) _ 0 0 (Lib.hid fun w hT => gcdT x y w hx hy h1 hd hT) (Lib.hid fun w hT => ?_) w hT
  have := quoT y ((Nat.gcd x.natAbs y.natAbs : Nat) : Int) w hy (hy.of_le (by rw [Int.natAbs_natCast]; exact hgle)) h1 hd (by omega) hT
  have e : qz y ((Nat.gcd x.natAbs y.natAbs : Nat) : Int) = ((od x y : Nat) : Int) := by
    have e1 : y = ((y.natAbs : Nat) : Int) := by omega
    rw [show qz y ((Nat.gcd x.natAbs y.natAbs : Nat) : Int) = qz ((y.natAbs : Nat) : Int) ((Nat.gcd x.natAbs y.natAbs : Nat) : Int) by rw [← e1]]
    rw [qz_nat _ _ (by omega)]
    rfl
  rw [e] at this
  exact this
/-- The least common multiple. -/
theorem least_T {d : Nat} (m n : Nat) (hm : Few d (m : Int)) (hn : Few d (n : Int)) (h0 : 0 < m) (h1 : 1 ≤ d) (hd : d + d ≤ 1024) (w : World) (hT : Tab w) :
    Calls Tryz.prog 91 #[.string (T (m : Int)), .string (T (n : Int))] w (fun e w' => e = .returned (.string (T ((Nat.lcm m n : Nat) : Int))) ∧ Below w.heap.size w w') := by
  have hg : 0 < Nat.gcd m n := Nat.gcd_pos_of_pos_left _ h0
  have hgle : Nat.gcd m n ≤ m := Nat.le_of_dvd h0 (Nat.gcd_dvd_left _ _)
  refine least_walk (T (m : Int)) (T (n : Int)) (T ((Nat.gcd m n : Nat) : Int)) (T ((m / Nat.gcd m n : Nat) : Int)) _ 0 0 0 (Lib.hid fun w hT => ?_) (Lib.hid fun w hT => ?_) (Lib.hid fun w hT => ?_) w hT
  · have := gcdT (m : Int) (n : Int) w hm hn h1 (by omega) hT
    rw [Int.natAbs_natCast, Int.natAbs_natCast] at this
    exact this
  · have := quoT (m : Int) ((Nat.gcd m n : Nat) : Int) w hm (hm.of_le (by rw [Int.natAbs_natCast, Int.natAbs_natCast]; exact hgle)) h1 (by omega) (by omega) hT
    rw [qz_nat _ _ (by omega)] at this
    exact this
  · have := mulT ((m / Nat.gcd m n : Nat) : Int) (n : Int) w (hm.of_le (by rw [Int.natAbs_natCast, Int.natAbs_natCast]; exact Nat.div_le_self _ _)) hn h1 hd hT
    rw [← Int.natCast_mul, lcm_div m n h0] at this
    exact this

/-- The least common multiple of the first orders. -/
def lc (L G : List ByteArray) : Nat → Nat
  | 0 => 1
  | j + 1 => Nat.lcm (lc L G j) (od (pz (sat L j)) (pz (sat G j)))
theorem dvd_of_rz {x y : Int} (hy : 0 < y) (h : rz x y = 0) : y.natAbs ∣ x.natAbs := by
  rw [rz_mod x y hy] at h
  exact Int.natAbs_dvd_natAbs.2 (Int.dvd_of_emod_eq_zero h)
theorem la_pos {G : List ByteArray} (h : gck fck G = 0) (j : Nat) (hj : j ≤ G.length) : 1 ≤ pz (la G j) := by
  rcases j with _ | j
  · unfold la; rw [pz_T]; omega
  · have := (right_at h j (by omega)).2
    show 1 ≤ pz (sat G j)
    omega
theorem lc_dvd {L G : List ByteArray} (h : gck fck G = 0) : ∀ j, j ≤ G.length → lc L G j ∣ (pz (la G j)).natAbs
  | 0, _ => Nat.one_dvd _
  | j + 1, hj => by
    have h1 := lc_dvd (L := L) h j (by omega)
    have h2 := ((gck_right h).2 j (by omega)).2
    have h3 := dvd_of_rz (by have := la_pos h j (by omega); omega) h2
    exact Nat.lcm_dvd (Nat.dvd_trans h1 h3) (od_dvd _ _)
theorem lc_pos {L G : List ByteArray} (h : gck fck G = 0) : ∀ j, j ≤ G.length → 0 < lc L G j
  | 0, _ => by unfold lc; omega
  | j + 1, hj => Nat.lcm_pos (lc_pos h j (by omega)) (od_pos _ _ (by have := (right_at h j (by omega)).2; omega))
theorem lc_few {L G : List ByteArray} (h : gck fck G = 0) {d : Nat} (h1 : 1 ≤ d) (hf : ∀ j, j < G.length → Few d (pz (sat G j))) (j : Nat) (hj : j ≤ G.length) : Few d ((lc L G j : Nat) : Int) := by
  have h2 := Nat.le_of_dvd (by have := la_pos h j hj; omega) (lc_dvd (L := L) h j hj)
  rcases j with _ | j
  · exact few_one h1
  · exact (hf j (by omega)).of_le (by rw [Int.natAbs_natCast]; exact h2)
theorem od_few {d : Nat} {x y : Int} (h : Few d y) (hy : 0 < y) : Few d ((od x y : Nat) : Int) :=
  h.of_le (by rw [Int.natAbs_natCast]; exact Nat.le_of_dvd (by omega) (od_dvd _ _))

/-- The order of an element of a short group, and the error. -/
def oeC (L G : List ByteArray) : Nat := if gck fck G ≠ 0 then gck fck G else inC L G
def oeS (L G : List ByteArray) : ByteArray := if oeC L G = 0 then T ((lc L G G.length : Nat) : Int) else ⟨#[]⟩
theorem orderOf_any (a b : Option Addr) (cap cap2 : Nat) (L G : List ByteArray) (hf : fewG G = true) (hsz : ∀ j, j < G.length → (sat G j).size ≤ 9223372036854775807) (hsz2 : ∀ j, j < L.length → (sat L j).size ≤ 9223372036854775807) (w : World) (h : TsAt w a G) (h2 : TsAt w b L) (hT : Tab w) :
    Calls Tryz.prog 41 #[.slice a G.length cap, .slice b L.length cap2] w (fun e w' => e = .returned (.tuple #[.string (oeS L G), .int .i64 ((oeC L G : Nat) : Int)]) ∧ Below w.heap.size w w') := by
  have HC := Lib.hid (fun w h hT => gcheck_any a cap G (fun _ => hsz) w h hT)
  unfold oeS
  by_cases h0 : gck fck G = 0
  · have hs := short_right h0 hf
    have HI := Lib.hid (fun w h h2 hT => inck_any a b cap cap2 L G h0 hsz hsz2 w h h2 hT)
    have e : oeC L G = inC L G := by unfold oeC; rw [if_neg (by simp [h0])]
    rw [h0] at HC
    rw [e]
    by_cases h1 : inC L G = 0
    · rw [if_pos h1, h1]
      rw [h1] at HI
      have hin := in_right h1
      obtain ⟨d, hd⟩ : ∃ d : Nat, d = 30 := ⟨_, rfl⟩
      rw [← hd] at hs
      refine orderOf_ok a b cap cap2 L G G.length (by omega) (fun j => T ((od (pz (sat L j)) (pz (sat G j)) : Nat) : Int)) (fun j => T ((lc L G j : Nat) : Int)) T_one HC HI (Lib.hid fun w hb ha hT => ?_) (Lib.hid fun j hj w hT => ?_) w h h2 hT
      · refine comb_order_ok b a cap2 cap L G hin.1 (by omega) _ (Lib.hid fun j hj w hT => ?_) w hb ha hT
        have hr := right_at h0 j hj
        have hz := (rz_self _ _ (by omega)).1 (hin.2 j hj).2
        have := order_T (d := d) (pz (sat L j)) (pz (sat G j)) ((hs.2 j hj).of_le (by omega)) (hs.2 j hj) (by omega) (by omega) (by omega) w hT
        rw [← right_T (hin.2 j hj).1, ← right_T hr.1] at this
        exact this
      · exact least_T (d := d) (lc L G j) (od (pz (sat L j)) (pz (sat G j))) (lc_few h0 (by omega) hs.2 j (by omega)) (od_few (hs.2 j hj) (by have := (right_at h0 j hj).2; omega)) (lc_pos h0 j (by omega)) (by omega) (by omega) w hT
    · rw [if_neg h1]
      exact orderOf_in a b cap cap2 L G _ h1 HC HI w h h2 hT
  · have e : oeC L G = gck fck G := by unfold oeC; rw [if_pos h0]
    rw [e, if_neg h0]
    exact orderOf_err a b cap cap2 L G _ h0 HC w h h2 hT

/-- The greatest common divisor of a factor and a number. -/
def gF (s : ByteArray) (G : List ByteArray) (j : Nat) : ByteArray := T ((Nat.gcd (pz (sat G j)).natAbs (pz s).natAbs : Nat) : Int)
def cnC (s : ByteArray) (G : List ByteArray) : Nat := if gck fck G ≠ 0 then gck fck G else if ck s ≠ 0 then ck s else if pz s < 1 then 2 else te (pr (upto (gF s G) G.length) G.length)
def cnS (s : ByteArray) (G : List ByteArray) : ByteArray := if gck fck G ≠ 0 then ⟨#[]⟩ else if ck s ≠ 0 then ⟨#[]⟩ else if pz s < 1 then ⟨#[]⟩ else XS (pr (upto (gF s G) G.length) G.length)
theorem gF_facts {s : ByteArray} {G : List ByteArray} (h : gck fck G = 0) (d : Nat) (hd : d = 1024) (j : Nat) (hj : j < G.length) : Few d (pz (gF s G j)) ∧ 1 ≤ pz (gF s G j) ∧ gF s G j = T (pz (gF s G j)) ∧ ck (gF s G j) = 0 := by
  have h1 := right_at h j hj
  have hg : 0 < Nat.gcd (pz (sat G j)).natAbs (pz s).natAbs := Nat.gcd_pos_of_pos_left _ (by omega)
  have hgle : Nat.gcd (pz (sat G j)).natAbs (pz s).natAbs ≤ (pz (sat G j)).natAbs := Nat.le_of_dvd (by omega) (Nat.gcd_dvd_left _ _)
  have e : pz (gF s G j) = ((Nat.gcd (pz (sat G j)).natAbs (pz s).natAbs : Nat) : Int) := pz_T _
  have hf : Few d (((Nat.gcd (pz (sat G j)).natAbs (pz s).natAbs : Nat) : Int)) := (right_few h1.1 d hd).of_le (by rw [Int.natAbs_natCast]; exact hgle)
  rw [e]
  exact ⟨hf, by omega, rfl, ck_T hf (by omega) (by omega)⟩

theorem count_any (a : Option Addr) (cap : Nat) (G : List ByteArray) (s : ByteArray) (hsz : G.length ≤ 16 → ∀ j, j < G.length → (sat G j).size ≤ 9223372036854775807) (hs2 : s.size ≤ 9223372036854775807) (w : World) (h : TsAt w a G) (hT : Tab w) :
    Calls Tryz.prog 38 #[.slice a G.length cap, .string s] w (fun e w' => e = .returned (.tuple #[.string (cnS s G), .int .i64 ((cnC s G : Nat) : Int)]) ∧ Below w.heap.size w w') := by
  have HC := Lib.hid (fun w h hT => gcheck_any a cap G hsz w h hT)
  unfold cnS cnC
  by_cases h0 : gck fck G = 0
  · rw [if_neg (not_not_intro h0), if_neg (not_not_intro h0)]
    have h1 := gck_right h0
    rw [h0] at HC
    by_cases hk : ck s = 0
    · rw [if_neg (not_not_intro hk), if_neg (not_not_intro hk)]
      have hS : Hid (∀ w, Calls Tryz.prog 87 #[.string s] w (fun e w' => e = .returned (.tuple #[.int .i64 (sgn (pz s)), .int .i64 0]) ∧ Below w.heap.size w w')) := Lib.hid (sgn_ok s hs2 hk)
      by_cases hn : pz s < 1
      · rw [if_pos hn, if_pos hn]
        exact count_neg a cap G s (sgn (pz s)) (by unfold sgn; split; omega; split <;> omega) HC hS w h hT
      · rw [if_neg hn, if_neg hn]
        obtain ⟨d, hd⟩ : ∃ d : Nat, d = 1024 := ⟨_, rfl⟩
        have hF := fun j (hj : j < G.length) => gF_facts (s := s) h0 d hd j hj
        refine count_ok a cap G s (by omega) (sgn (pz s)) _ (by unfold sgn; rw [if_neg (by omega), if_pos (by omega)]; omega) _ (gF s G) HC hS (Lib.hid fun j hj w hT => ?_) (Lib.hid fun w a' c' h' hT => ?_) w h hT
        · have := gcdT (pz (sat G j)) (pz s) w (right_few (right_at h0 j hj).1 d hd) (right_few hk d hd) (by omega) (by omega) hT
          rw [← right_T (right_at h0 j hj).1, ← right_T hk] at this
          exact this
        · have := product_any a' c' (upto (gF s G) G.length) (by rw [upto_len]; omega) (fun j hj => ?_) (fun j hj => ?_) (fun j hj => ?_) w h' hT
          · rw [upto_len] at this; exact this
          all_goals
            rw [upto_len] at hj
            rw [sat_upto _ _ j hj]
          · have := (hF j hj).1.size (by omega) (by omega)
            rw [(hF j hj).2.2.1]; exact this
          · exact (hF j hj).2.2.2
          · exact (hF j hj).2.1
    · rw [if_pos hk, if_pos hk]
      exact count_arg a cap G s _ hk HC (Lib.hid fun w => sgn_err s hs2 hk w) w h hT
  · rw [if_pos h0, if_pos h0]
    exact count_err a cap G s _ h0 HC w h hT

theorem rcount_any (a : Option Addr) (cap : Nat) (G : List ByteArray) (s : ByteArray) (hsz : G.length ≤ 16 → ∀ j, j < G.length → (sat G j).size ≤ 9223372036854775807) (hs2 : s.size ≤ 9223372036854775807) (w : World) (h : TsAt w a G) :
    Calls Tryz.prog 39 #[.slice a G.length cap, .string s] w (fun e w' => e = .returned (.tuple #[.string (cnS s G), .int .i64 ((cnC s G : Nat) : Int)]) ∧ Below w.heap.size w w') := by
  have HC := Lib.hid (fun w h => rgcheck_any a cap G hsz w h)
  have HK := Lib.hid (fun w => rcheck_right s hs2 w)
  unfold cnS cnC
  by_cases h0 : gck fck G = 0
  · rw [if_neg (not_not_intro h0), if_neg (not_not_intro h0)]
    have h1 := gck_right h0
    rw [h0] at HC
    by_cases hk : ck s = 0
    · rw [if_neg (not_not_intro hk), if_neg (not_not_intro hk)]
      rw [hk] at HK
      obtain ⟨d, hd⟩ : ∃ d : Nat, d = 1024 := ⟨_, rfl⟩
      have hO : Hid (∀ w, Calls Tryz.prog 26 #[.string s, .string ⟨#[49]⟩] w (fun e w' => e = .returned (.int .i64 (cmpZ (pz s) 1)) ∧ Below w.heap.size w w')) := Lib.hid fun w => by
        have := rorderT (pz s) 1 (right_few hk d hd) (few_one (by omega)) (by omega) (by omega) w
        rw [← right_T hk, T_one] at this
        exact this
      by_cases hn : pz s < 1
      · rw [if_pos hn, if_pos hn]
        exact rcount_neg a cap G s (cmpZ (pz s) 1) (by unfold cmpZ; rw [if_pos hn]; omega) HC HK hO w h
      · rw [if_neg hn, if_neg hn]
        have hF := fun j (hj : j < G.length) => gF_facts (s := s) h0 d hd j hj
        have hpf := pr_few (L := upto (gF s G) G.length) (n := G.length) (fun j hj => by rw [sat_upto _ _ j hj]; exact (hF j hj).2.2.2) d hd
        have hle : ∀ j, j ≤ G.length → d * j ≤ 1024 * 16 := fun j hj => by rw [hd]; exact Nat.mul_le_mul_left _ (by omega)
        refine rcount_ok a cap G s (by omega) (cmpZ (pz s) 1) _ (by unfold cmpZ; rw [if_neg (by omega)]; split <;> omega) _ (gF s G) (fun j => T (pr (upto (gF s G) G.length) j)) T_one HC HK hO (Lib.hid fun j hj w => ?_) (Lib.hid fun j hj w => ?_) (Lib.hid fun w => ?_) w h
        · have := rcommon_any (pz (sat G j)) (pz s) (right_few (right_at h0 j hj).1 d hd) (right_few hk d hd) (by omega) (by omega) w
          rw [← right_T (right_at h0 j hj).1, ← right_T hk] at this
          exact this
        · have := rtimes_any (pr (upto (gF s G) G.length) j) (pz (gF s G j)) (hpf j (by omega)) (hF j hj).1 (by omega) (by have := hle j (by omega); omega) (by omega) (by omega) w
          rw [← (hF j hj).2.2.1] at this
          rw [show pr (upto (gF s G) G.length) (j + 1) = pr (upto (gF s G) G.length) j * pz (gF s G j) by rw [← sat_upto (gF s G) G.length j hj]; rfl]
          exact this
        · exact rbounded _ (hpf _ (Nat.le_refl _)) (by omega) (by have := hle _ (Nat.le_refl G.length); omega) w
    · rw [if_pos hk, if_pos hk]
      exact rcount_arg a cap G s _ hk HC HK w h
  · rw [if_pos h0, if_pos h0]
    exact rcount_err a cap G s _ h0 HC w h

end Go.Proofs.YtnfmcdfdbipeoaaGreatDoor

namespace Go.Proofs.YtnfmcdfdbipeoaaGreatDoor
open Go.RowKit Go.Proofs.Num

/-- What the examples return. -/
def Awake : Prop := ∀ w, Tab w → Calls Tryz.prog 13 #[] w (fun e w' => e = .returned (.bool true) ∧ Below w.heap.size w w')
theorem TsAt.lit (w : World) (l : List ByteArray) : TsAt (w.alloc (.cells (strs l).toArray 31)) (some ⟨w.heap.size, 0, none⟩) l := by
  intro j hj
  refine ⟨w.heap.size, 0, rfl, by rw [World.size_alloc]; omega, ?_⟩
  rw [Nat.zero_add, cell_of_row _ _ j _ 31 (0, 0) (heap_alloc_new w _), List.getElem?_toArray, strs_at l j hj]
def g26 : List ByteArray := [⟨#[50]⟩, ⟨#[54]⟩]
def e12 : List ByteArray := [⟨#[49]⟩, ⟨#[50]⟩]
def e13 : List ByteArray := [⟨#[49]⟩, ⟨#[51]⟩]
def d4 : List ByteArray := [⟨#[49]⟩, ⟨#[49]⟩, ⟨#[50]⟩, ⟨#[54]⟩]
def d10 : List ByteArray := [⟨#[49]⟩, ⟨#[48]⟩]
theorem sat_small (l : List ByteArray) (h : ∀ s ∈ l, s.size = 1) (j : Nat) (hj : j < l.length) : (sat l j).size ≤ 9223372036854775807 := by
  rw [sat_get l j hj, h _ (List.getElem_mem hj)]; omega
theorem ts_T {z : Int} {s : ByteArray} (h : s.data.toList = Lib.itoa z) : T z = s := by
  apply ByteArray.ext; apply Array.ext'; rw [T_data]; exact h.symm
theorem XS_small {z : Int} {s : ByteArray} (hz : z.natAbs < 1000) (h : s.data.toList = Lib.itoa z) : XS z = s := by
  rw [XS_ok ((few_small hz).te (by omega) (by omega)), ts_T h]
theorem gck26 : gck fck g26 = 0 := by decide +kernel
theorem few26 : fewG g26 = true := by decide +kernel
theorem aw1 (a : Option Addr) (cap : Nat) (w : World) (h : TsAt w a g26) (hT : Tab w) : Calls Tryz.prog 16 #[.slice a 2 cap] w (fun e w' => e = .returned (.tuple #[.string ⟨#[49, 50]⟩, .int .i64 0]) ∧ Below w.heap.size w w') := by
  have := order_any a cap g26 (fun _ => sat_small _ (by decide +kernel)) w h hT
  have e1 : ordS g26 = ⟨#[49, 50]⟩ := by
    unfold ordS
    rw [if_pos gck26, show pr g26 g26.length = 12 by decide +kernel]
    exact XS_small (by decide) (by decide +kernel)
  have e2 : ordC g26 = 0 := by
    unfold ordC
    rw [if_pos gck26, show pr g26 g26.length = 12 by decide +kernel]
    exact (few_small (by decide)).te (by omega) (by omega)
  rw [e1, e2] at this
  exact this
theorem aw2 (a : Option Addr) (cap : Nat) (w : World) (h : TsAt w a g26) (hT : Tab w) : Calls Tryz.prog 18 #[.slice a 2 cap] w (fun e w' => e = .returned (.tuple #[.string ⟨#[54]⟩, .int .i64 0]) ∧ Below w.heap.size w w') := by
  have := expo_any a cap g26 (fun _ => sat_small _ (by decide +kernel)) w h hT
  rw [show expS g26 = ⟨#[54]⟩ by unfold expS; rw [if_pos gck26]; rfl, gck26] at this
  exact this
theorem aw3 (a b : Option Addr) (cap cap2 : Nat) (w : World) (h : TsAt w a g26) (h2 : TsAt w b e12) (hT : Tab w) : Calls Tryz.prog 41 #[.slice a 2 cap, .slice b 2 cap2] w (fun e w' => e = .returned (.tuple #[.string ⟨#[54]⟩, .int .i64 0]) ∧ Below w.heap.size w w') := by
  have := orderOf_any a b cap cap2 e12 g26 few26 (sat_small _ (by decide +kernel)) (sat_small _ (by decide +kernel)) w h h2 hT
  have e0 : oeC e12 g26 = 0 := by decide +kernel
  rw [show oeS e12 g26 = ⟨#[54]⟩ by unfold oeS; rw [if_pos e0, show lc e12 g26 g26.length = 6 by decide +kernel]; exact ts_T (by decide +kernel), e0] at this
  exact this
theorem aw4 (a b : Option Addr) (cap cap2 : Nat) (w : World) (h : TsAt w a g26) (h2 : TsAt w b e13) (hT : Tab w) : Calls Tryz.prog 41 #[.slice a 2 cap, .slice b 2 cap2] w (fun e w' => e = .returned (.tuple #[.string ⟨#[50]⟩, .int .i64 0]) ∧ Below w.heap.size w w') := by
  have := orderOf_any a b cap cap2 e13 g26 few26 (sat_small _ (by decide +kernel)) (sat_small _ (by decide +kernel)) w h h2 hT
  have e0 : oeC e13 g26 = 0 := by decide +kernel
  rw [show oeS e13 g26 = ⟨#[50]⟩ by unfold oeS; rw [if_pos e0, show lc e13 g26 g26.length = 2 by decide +kernel]; exact ts_T (by decide +kernel), e0] at this
  exact this
theorem aw5 (a : Option Addr) (cap : Nat) (w : World) (h : TsAt w a g26) (hT : Tab w) : Calls Tryz.prog 38 #[.slice a 2 cap, .string ⟨#[50]⟩] w (fun e w' => e = .returned (.tuple #[.string ⟨#[52]⟩, .int .i64 0]) ∧ Below w.heap.size w w') := by
  have := count_any a cap g26 ⟨#[50]⟩ (fun _ => sat_small _ (by decide +kernel)) (by decide +kernel) w h hT
  have e0 : ck ⟨#[50]⟩ = 0 := by decide +kernel
  have e3 : ¬ pz ⟨#[50]⟩ < 1 := by decide +kernel
  have e4 : pr (upto (gF ⟨#[50]⟩ g26) g26.length) g26.length = 4 := by
    have h0 : pz (gF ⟨#[50]⟩ g26 0) = 2 := by
      show pz (T _) = 2
      rw [pz_T]; decide +kernel
    have h1 : pz (gF ⟨#[50]⟩ g26 1) = 2 := by
      show pz (T _) = 2
      rw [pz_T]; decide +kernel
    show pr (upto (gF ⟨#[50]⟩ g26) 2) 2 = 4
    unfold pr pr pr
    rw [sat_upto _ _ _ (by omega), sat_upto _ _ _ (by omega), h0, h1]
    rfl
  have e1 : cnS ⟨#[50]⟩ g26 = ⟨#[52]⟩ := by
    unfold cnS
    rw [if_neg (not_not_intro gck26), if_neg (not_not_intro e0), if_neg e3, e4]
    exact XS_small (by decide) (by decide +kernel)
  have e2 : cnC ⟨#[50]⟩ g26 = 0 := by
    unfold cnC
    rw [if_neg (not_not_intro gck26), if_neg (not_not_intro e0), if_neg e3, e4]
    exact (few_small (by decide)).te (by omega) (by omega)
  rw [e1, e2] at this
  exact this
theorem aw6 (a : Option Addr) (cap : Nat) (w : World) (h : TsAt w a d4) (hT : Tab w) : Calls Tryz.prog 14 #[.slice a 4 cap] w (GivesTs w g26 0) := by
  have := of_any a cap d4 (fun _ => sat_small _ (by decide +kernel)) w h hT
  rw [show ofL d4 = g26 by unfold ofL; rw [if_pos (show gck dck d4 = 0 by decide +kernel)]; decide +kernel, show gck dck d4 = 0 by decide +kernel] at this
  exact this
theorem aw7 (a : Option Addr) (cap : Nat) (w : World) (h : TsAt w a d10) (hT : Tab w) : Calls Tryz.prog 14 #[.slice a 2 cap] w (GivesTs w [] 10) := by
  have := of_any a cap d10 (fun _ => sat_small _ (by decide +kernel)) w h hT
  rw [show ofL d10 = [] by unfold ofL; rw [if_neg (show ¬ gck dck d10 = 0 by decide +kernel)], show gck dck d10 = 10 by decide +kernel] at this
  exact this

set_option maxHeartbeats 3200000 in
set_option maxRecDepth 100000 in
theorem awake_any : Awake := by
  intro w hT
  have HT := Lib.hid hT
  obtain ⟨W, hW⟩ : ∃ W, W = w.alloc (.cells #[.string ⟨#[50]⟩, .string ⟨#[54]⟩] 31) := ⟨_, rfl⟩
  have h26 : TsAt W (some ⟨w.heap.size, 0, none⟩) g26 := by rw [hW]; exact TsAt.lit w g26
  have hB0 : Below w.heap.size w W := by rw [hW]; exact (Below.refl _ _).alloc (Nat.le_refl _) _
  have HG := Lib.hid h26
  have HW := Lib.hid hW
  have HB0 := Lib.hid hB0
  clear hT hW h26 hB0
  go_enter Tryz.func13, Tryz.ntmps13
  go_wp2_with fail
  rw [← HW.out]
  have hB := HB0.out
  have hk : Below W.heap.size W W := Below.refl _ _
  refine (aw1 _ _ _ (HG.out.keep hk) (HT.out.keep (HB0.out.trans (hk.mono HB0.out.size)))).mono ?_
  rintro e w1 ⟨rfl, hb1⟩
  have hB1 := hk.trans (hb1.mono hk.size)
  clear hb1 hk
  have hk := hB1
  clear hB1
  go_wp2_with fail
  refine (aw2 _ _ _ (HG.out.keep hk) (HT.out.keep (HB0.out.trans (hk.mono HB0.out.size)))).mono ?_
  rintro e w2 ⟨rfl, hb2⟩
  have hB2 := hk.trans (hb2.mono hk.size)
  clear hb2 hk
  have hk := hB2
  clear hB2
  go_wp2_with fail
  have hl3 := TsAt.lit w2 e12
  have hk9 := hk.alloc hk.size (.cells (strs e12).toArray 31)
  clear hk
  have hk := hk9
  clear hk9
  refine (aw3 _ _ _ _ _ (HG.out.keep hk) hl3 (HT.out.keep (HB0.out.trans (hk.mono HB0.out.size)))).mono ?_
  rintro e w3 ⟨rfl, hb3⟩
  have hB3 := hk.trans (hb3.mono hk.size)
  clear hb3 hk
  have hk := hB3
  clear hB3
  clear hl3
  go_wp2_with fail
  have hl4 := TsAt.lit w3 e13
  have hk9 := hk.alloc hk.size (.cells (strs e13).toArray 31)
  clear hk
  have hk := hk9
  clear hk9
  refine (aw4 _ _ _ _ _ (HG.out.keep hk) hl4 (HT.out.keep (HB0.out.trans (hk.mono HB0.out.size)))).mono ?_
  rintro e w4 ⟨rfl, hb4⟩
  have hB4 := hk.trans (hb4.mono hk.size)
  clear hb4 hk
  have hk := hB4
  clear hB4
  clear hl4
  go_wp2_with fail
  refine (aw5 _ _ _ (HG.out.keep hk) (HT.out.keep (HB0.out.trans (hk.mono HB0.out.size)))).mono ?_
  rintro e w5 ⟨rfl, hb5⟩
  have hB5 := hk.trans (hb5.mono hk.size)
  clear hb5 hk
  have hk := hB5
  clear hB5
  go_wp2_with fail
  have hl6 := TsAt.lit w5 d4
  have hk9 := hk.alloc hk.size (.cells (strs d4).toArray 31)
  clear hk
  have hk := hk9
  clear hk9
  refine (aw6 _ _ _ hl6 (HT.out.keep (HB0.out.trans (hk.mono HB0.out.size)))).mono ?_
  rintro e w6 ⟨a6, c6, rfl, hz6, hb6⟩
  have hB6 := hk.trans (hb6.mono hk.size)
  have HB6 := Lib.hid hb6
  have HZ6 := Lib.hid hz6
  clear hb6 hz6 hk hl6
  have hk := hB6
  clear hB6
  go_wp2_with fail
  have hl7 := TsAt.lit w6 d10
  have hk9 := hk.alloc hk.size (.cells (strs d10).toArray 31)
  clear hk
  have hk := hk9
  clear hk9
  refine (aw7 _ _ _ hl7 (HT.out.keep (HB0.out.trans (hk.mono HB0.out.size)))).mono ?_
  rintro e w7 ⟨a7, c7, rfl, hz7, hb7⟩
  have hB7 := hk.trans (hb7.mono hk.size)
  have HB7 := Lib.hid hb7
  have HZ7 := Lib.hid hz7
  clear hb7 hz7 hk hl7
  have hk := hB7
  clear hB7
  go_wp2_with fail
  have h67 : Below w6.heap.size w6 w7 := ((Below.refl _ _).alloc (Nat.le_refl _) _).trans (HB7.out.mono (by rw [World.size_alloc]; omega))
  refine (equal_true a6 (some ⟨w.heap.size, 0, none⟩) c6 2 g26 (by decide) w7 (HZ6.out.keep h67) (HG.out.keep hk)).mono ?_
  rintro e w8 ⟨rfl, hb8⟩
  have hB8 := hk.trans (hb8.mono hk.size)
  clear hb8 hk h67
  have hk := hB8
  clear hB8
  go_wp2
  go_ret
  exact ⟨rfl, HB0.out.trans (hk.mono HB0.out.size)⟩

end Go.Proofs.YtnfmcdfdbipeoaaGreatDoor
