/- Texts of numbers that are not too long; sums and products of them. And: Walks of the reference: a digit, cutting zeros, the sign, the digits of a text; and: Walks of the reference: the sign and the digits of a canonical text; and: Walks of the reference: the digits of a canonical text, the order of digits; and: Walks of the reference: the sum and the difference of digits. And: Walks of the laws: sums and products obey the laws of a ring. And: Walks of the laws: the order is total, and keeps sums and products. -/
import Derived.Test.YtnfmcdfdbipeoaaGreatDoorQ21
import Derived.Test.YtnfmcdfdbipeoaaGreatDoorQ18
import Derived.Test.YtnfmcdfdbipeoaaGreatDoorQ06
import Derived.Test.YtnfmcdfdbipeoaaGreatDoorQ08
import Derived.Test.YtnfmcdfdbipeoaaGreatDoorQ16
import Derived.IntWalk
namespace Go.Proofs.YtnfmcdfdbipeoaaGreatDoor
open Go.RowKit Go.Proofs.Num

/-- The text of a number. -/
def T (z : Int) : ByteArray := ⟨(Lib.itoa z).toArray⟩
theorem T_data (z : Int) : (T z).data.toList = Lib.itoa z := rfl
theorem T_str (z : Int) : str (Lib.itoa z) = .string (T z) := rfl

theorem of_chk (s : ByteArray) (h : chk s.data.toList = 0) : s = T (parse s.data.toList) := by
  unfold T
  rw [(chk_cases _ h).1]

theorem nD_le : ∀ (d u : Nat), 1 ≤ d → u < 10 ^ d → Lib.nDigits u ≤ d
  | 0, _, h, _ => absurd h (by omega)
  | d + 1, u, _, h => by
    by_cases h10 : u < 10
    · rw [Lib.nDigits_small h10]; omega
    · rw [Lib.nDigits_big h10]
      have hd : 1 ≤ d := by
        rcases Nat.eq_zero_or_pos d with e | e
        · subst e; simp at h; omega
        · exact e
      have := nD_le d (u / 10) hd (by rw [Nat.pow_succ] at h; omega)
      omega

/-- A number of few digits. -/
def Few (d : Nat) (z : Int) : Prop := z.natAbs < 10 ^ d

theorem Few.le {d e : Nat} {z : Int} (h : Few d z) (he : d ≤ e) : Few e z := Nat.lt_of_lt_of_le h (Nat.pow_le_pow_right (by omega) he)
theorem Few.dig {d : Nat} {z : Int} (h : Few d z) (h1 : 1 ≤ d) (hd : d ≤ 1024) : ¬ 1024 < Lib.nDigits z.natAbs := by
  have := nD_le d z.natAbs h1 h; omega
theorem Few.chk {d : Nat} {z : Int} (h : Few d z) (h1 : 1 ≤ d) (hd : d ≤ 1024) : chk (T z).data.toList = 0 := by
  rw [T_data, chk_itoa, if_neg (h.dig h1 hd)]
theorem Few.tx {d : Nat} {z : Int} (h : Few d z) (h1 : 1 ≤ d) (hd : d ≤ 1024) : tx z = Lib.itoa z := by
  unfold YtnfmcdfdbipeoaaGreatDoor.tx; rw [if_neg (h.dig h1 hd)]
theorem Few.te {d : Nat} {z : Int} (h : Few d z) (h1 : 1 ≤ d) (hd : d ≤ 1024) : te z = 0 := by
  unfold YtnfmcdfdbipeoaaGreatDoor.te; rw [if_neg (h.dig h1 hd)]

theorem body_ge (l : List UInt8) : l.length ≤ (body l).length + 1 := by
  unfold body Lib.trimPrefix; split
  · rw [List.length_drop]; simp; omega
  · omega

theorem Few.size {d : Nat} {z : Int} (h : Few d z) (h1 : 1 ≤ d) (hd : d ≤ 1024) : (T z).size ≤ 9223372036854775807 := by
  have h2 := body_ge (T z).data.toList
  rw [T_data] at h2
  rw [itoa_body, Lib.decDigits_length, ← T_data, size_toList] at h2
  have := h.dig h1 hd
  omega

theorem Few.add {d : Nat} {x y : Int} (hx : Few d x) (hy : Few d y) : Few (d + 1) (x + y) := lt_add hx hy
theorem Few.sub {d : Nat} {x y : Int} (hx : Few d x) (hy : Few d y) : Few (d + 1) (x - y) := lt_sub hx hy
theorem Few.mul {d e : Nat} {x y : Int} (hx : Few d x) (hy : Few e y) : Few (d + e) (x * y) := lt_mul hx hy
theorem Few.neg {d : Nat} {x : Int} (hx : Few d x) : Few d (-x) := by unfold Few at *; rwa [Int.natAbs_neg]

theorem op2_T (f : Int → Int → Int) {d e : Nat} {x y : Int} (hx : Few d x) (hy : Few d y) (h1 : 1 ≤ d) (hd : d ≤ 1024) (hz : Few e (f x y)) (he1 : 1 ≤ e) (he : e ≤ 1024) :
    op2 f (T x).data.toList (T y).data.toList = (Lib.itoa (f x y), 0) := by
  unfold op2
  rw [if_neg (by rw [hx.chk h1 hd]; simp), if_neg (by rw [hy.chk h1 hd]; simp), T_data, T_data, parse_itoa, parse_itoa, hz.tx he1 he, hz.te he1 he]

theorem addT {d : Nat} (x y : Int) (w : World) (hx : Few d x) (hy : Few d y) (h1 : 1 ≤ d) (hd : d + 1 ≤ 1024) (hT : Tab w) :
    Calls Tryz.prog 119 #[.string (T x), .string (T y)] w fun e w' => e = .returned (.tuple #[.string (T (x + y)), .int .i64 0]) ∧ Below w.heap.size w w' := by
  have h := add_any (T x) (T y) (hx.size h1 (by omega)) (hy.size h1 (by omega)) w hT
  rw [op2_T (· + ·) hx hy h1 (by omega) (hx.add hy) (by omega) hd] at h
  exact h

theorem subT {d : Nat} (x y : Int) (w : World) (hx : Few d x) (hy : Few d y) (h1 : 1 ≤ d) (hd : d + 1 ≤ 1024) (hT : Tab w) :
    Calls Tryz.prog 118 #[.string (T x), .string (T y)] w fun e w' => e = .returned (.tuple #[.string (T (x - y)), .int .i64 0]) ∧ Below w.heap.size w w' := by
  have h := sub_any (T x) (T y) (hx.size h1 (by omega)) (hy.size h1 (by omega)) w hT
  rw [op2_T (· - ·) hx hy h1 (by omega) (hx.sub hy) (by omega) hd] at h
  exact h

theorem mulT {d : Nat} (x y : Int) (w : World) (hx : Few d x) (hy : Few d y) (h1 : 1 ≤ d) (hd : d + d ≤ 1024) (hT : Tab w) :
    Calls Tryz.prog 49 #[.string (T x), .string (T y)] w fun e w' => e = .returned (.tuple #[.string (T (x * y)), .int .i64 0]) ∧ Below w.heap.size w w' := by
  have h := mul_any (T x) (T y) (hx.size h1 (by omega)) (hy.size h1 (by omega)) w hT
  rw [op2_T (· * ·) hx hy h1 (by omega) (hx.mul hy) (by omega) hd] at h
  exact h

theorem negT {d : Nat} (x : Int) (w : World) (hx : Few d x) (h1 : 1 ≤ d) (hd : d ≤ 1024) (hT : Tab w) :
    Calls Tryz.prog 120 #[.string (T x)] w fun e w' => e = .returned (.tuple #[.string (T (-x)), .int .i64 0]) ∧ Below w.heap.size w w' := by
  have h := neg_ok (T x) (hx.size h1 hd) (hx.chk h1 hd) w hT
  rw [T_data, parse_itoa, hx.neg.tx h1 hd, hx.neg.te h1 hd] at h
  exact h

/-- What short texts are. -/
theorem small_T (s : ByteArray) (h : smallB s = true) : ∃ x d, s = T x ∧ d = 60 ∧ Few d x := by
  unfold smallB at h
  simp only [Bool.and_eq_true, decide_eq_true_eq, beq_iff_eq] at h
  obtain ⟨d, hd⟩ : ∃ d : Nat, d = 60 := ⟨_, rfl⟩
  refine ⟨_, d, of_chk s h.2, hd, ?_⟩
  have h1 := (chk_cases _ h.2).1
  have h3 := body_length (Lib.itoa (parse s.data.toList))
  rw [itoa_body, Lib.decDigits_length, h1, size_toList] at h3
  exact Nat.lt_of_lt_of_le (Lib.lt_pow_nDigits _) (Nat.pow_le_pow_right (by omega) (by omega))

end Go.Proofs.YtnfmcdfdbipeoaaGreatDoor

namespace Go.Proofs.YtnfmcdfdbipeoaaGreatDoor
open Go.RowKit Go.Proofs.Num

/-- A slice of ints reads as a number, last digit first, without zeros on top. -/
def Dg (w : World) (v : Value) (n : Nat) : Prop := Rd .i64 3 w v (dig 10 n)
theorem Dg.keep {w w' : World} {v : Value} {n : Nat} (h : Dg w v n) (hb : Below w.heap.size w w') : Dg w' v n := Rd.keep h hb

set_option maxRecDepth 100000 in
theorem digit_at (a : Option Addr) (cap : Nat) (l : List Nat) (i : Nat) (w : World) (h1 : At .i64 w a l) (_ : l.length ≤ 4294967296) (_ : i ≤ 4294967296) :
    Calls Tryz.prog 139 #[.slice a l.length cap, .int .i64 ((i : Nat) : Int)] w fun e w' => e = .returned (.int .i64 ((nth l i : Nat) : Int)) ∧ w = w' := by
  by_cases hlt : i < l.length
  · obtain ⟨b, o, rfl, hb, hc⟩ := h1 i hlt
    go_enter Tryz.func139, Tryz.ntmps139
    go_wp2
    go_ret
    exact ⟨rfl, rfl⟩
  · have hn := nth_past l i (by omega)
    have HN := Lib.hid hn
    clear hn h1
    go_enter Tryz.func139, Tryz.ntmps139
    go_wp2
    go_ret
    exact ⟨by rw [HN.out]; rfl, rfl⟩

set_option maxHeartbeats 800000 in
set_option maxRecDepth 100000 in
theorem cut_at (b off cap : Nat) (l : List Nat) (w : World) (hl : l.length ≤ cap) (hsm : l.length ≤ 4294967296) (hc : ∀ j, j < l.length → w.cell? ⟨b, off + j, none⟩ = some (.int .i64 ((nth l j : Nat) : Int))) :
    Calls Tryz.prog 138 #[.slice (some ⟨b, off, none⟩) l.length cap] w fun e w' => (∃ k, k ≤ l.length ∧ e = .returned (.slice (some ⟨b, off, none⟩) k cap) ∧ val 10 (l.take k) = val 10 l ∧ (k = 0 ∨ nth l (k - 1) ≠ 0)) ∧ w = w' := by
  go_enter Tryz.func138, Tryz.ntmps138
  go_wp2
  go_loop [3] (fun v => ∃ k : Nat, k ≤ l.length ∧ v = .int .i64 k ∧ val 10 (l.take k) = val 10 l) (fun v => (intOf v).toNat)
  case atStart => exact ⟨l.length, Nat.le_refl _, rfl, by rw [List.take_length]⟩
  case round =>
    obtain ⟨k, hk, rfl, hv⟩ := hrel
    by_cases h0 : 0 < k
    · have hcell : w.cell? ⟨b, off + (k - 1), none⟩ = some (.int .i64 ((nth l (k - 1) : Nat) : Int)) := hc (k - 1) (by omega)
      by_cases hz : nth l (k - 1) = 0
      · have hz' : (((nth l (k - 1) : Nat) : Int) == 0) = true := by simp [hz]
        have hv' : val 10 (l.take (k - 1)) = val 10 l := by
          rw [← hv]; conv => rhs; rw [show k = (k - 1) + 1 by omega, val_take_nth, hz]
          omega
        have HV := Lib.hid hv'
        clear hv hv' hz
        go_wp2
        go_round
        case rel => exact ⟨k - 1, by omega, by go_num, HV.out⟩
        case measure => simp [intOf]; omega
      · have hz' : (((nth l (k - 1) : Nat) : Int) == 0) = false := by simp; omega
        have HZ := Lib.hid hz
        have HV := Lib.hid hv
        clear hv hz
        go_wp2
        go_ret
        exact ⟨⟨k, hk, rfl, HV.out, .inr HZ.out⟩, rfl⟩
    · have HV := Lib.hid hv
      clear hv
      obtain rfl : k = 0 := by omega
      go_wp2
      go_ret
      exact ⟨⟨0, hk, rfl, HV.out, .inl rfl⟩, rfl⟩

theorem norm_take10 {l : List Nat} {k : Nat} (hl : ∀ x ∈ l, x < 10) (hv : val 10 (l.take k) = val 10 l) (h : k = 0 ∨ nth l (k - 1) ≠ 0) : dig 10 (val 10 l) = l.take k := by
  rw [← hv]
  refine dig_val (by omega) _ ⟨fun x hx => hl x (List.mem_of_mem_take hx), ?_⟩
  rcases h with rfl | h
  · simp
  · intro h2
    have h3 : k - 1 < l.length := by
      rcases Nat.lt_or_ge (k - 1) l.length with h3 | h3
      · exact h3
      · exact absurd (nth_past l (k - 1) h3) h
    by_cases h0 : k = 0
    · subst h0; simp at h2
    · rw [show k = (k - 1) + 1 by omega, take_succ_nth l (k - 1) h3, List.getLast?_append] at h2
      simp at h2
      exact h h2

theorem cut_nil (a : Option Addr) (cap : Nat) (w : World) : Calls Tryz.prog 138 #[.slice a 0 cap] w fun e w' => (∃ c, e = .returned (.slice c 0 cap)) ∧ w = w' := by
  go_enter Tryz.func138, Tryz.ntmps138
  go_wp2
  refine wp_loop_rounds 1 ?_
  rw [rounds_succ]
  go_wp2
  go_ret
  exact ⟨⟨_, rfl⟩, rfl⟩

/-- cut: what comes back reads as the canonical digits of the value. -/
theorem cut_any (v : Value) (l : List Nat) (w : World) (hv : Rd .i64 3 w v l) (hl : ∀ x ∈ l, x < 10) (hsm : l.length ≤ 4294967296) :
    Calls Tryz.prog 138 #[v] w fun e w' => ∃ v', e = .returned v' ∧ Dg w v' (val 10 l) ∧ w = w' := by
  rcases hv with ⟨rfl, a, cap, rfl⟩ | ⟨b, off, cap, rfl, h⟩
  · refine (cut_nil a cap w).mono ?_
    rintro e w' ⟨⟨c, rfl⟩, rfl⟩
    exact ⟨_, rfl, by rw [val_nil]; unfold Dg; rw [dig_zero]; exact Rd.nil _ _ _ _ _, rfl⟩
  · refine (cut_at b off cap l w h.fits hsm h.cell).mono ?_
    rintro e w' ⟨⟨k, hk, rfl, hv, h0⟩, rfl⟩
    refine ⟨_, rfl, ?_, rfl⟩
    have hd := norm_take10 hl hv h0
    have hlen : (l.take k).length = k := by rw [List.length_take]; omega
    unfold Dg
    rw [hd]
    refine .inr ⟨b, off, cap, by rw [hlen], by have := h.fits; omega, h.lt, h.ty, fun j hj => ?_⟩
    rw [h.cell j (by omega)]
    unfold nth
    rw [getD_get l j (by omega), getD_get (l.take k) j hj, List.getElem_take]
end Go.Proofs.YtnfmcdfdbipeoaaGreatDoor

namespace Go.Proofs.YtnfmcdfdbipeoaaGreatDoor
open Go.RowKit Go.Proofs.Num

theorem T_pos (z : Int) : 0 < (T z).size := by
  have h : (Lib.itoa z).length ≠ 0 := by
    unfold Lib.itoa
    obtain ⟨-, -, h1, -⟩ := decDigits_facts z.toNat
    by_cases hz : z < 0
    · rw [if_pos hz]; simp
    · rw [if_neg hz]; simpa using h1
  rw [← T_data, size_toList] at h
  omega

theorem T_head (z : Int) : (((T z)[0]'(T_pos z)).toNat = 45) ↔ z < 0 := by
  have h1 := head_str (T z) (T_pos z)
  have h2 := hasPrefix_itoa z
  rw [hasPrefix_one, ← T_data, h1] at h2
  generalize (T z)[0]'(T_pos z) = c at *
  have h3 : (c = 45) ↔ z < 0 := by
    by_cases hz : z < 0
    · simp [hz] at h2 ⊢; exact h2
    · simp [hz] at h2 ⊢; exact h2
  rw [← h3]
  constructor
  · intro h; exact UInt8.toNat_inj.1 h
  · rintro rfl; rfl

set_option maxRecDepth 100000 in
theorem minus_any (z : Int) (w : World) : Calls Tryz.prog 61 #[.string (T z)] w fun e w' => e = .returned (.bool (decide (z < 0))) ∧ w = w' := by
  have hp := T_pos z
  have hh := T_head z
  obtain ⟨s, hs⟩ : ∃ s, s = T z := ⟨_, rfl⟩
  have h1 : ∀ hp : 0 < s.size, (((s[0]'hp).toNat : Int) == 45) = decide (z < 0) := by
    subst hs
    intro hp
    by_cases hz : z < 0
    · have := hh.2 hz; simp [hz, this]
    · have : ¬ ((T z)[0]'hp).toNat = 45 := fun h => hz (hh.1 h)
      simp [hz]; omega
  rw [← hs] at hp ⊢
  have h2 := h1 hp
  have H2 := Lib.hid h2
  clear hh hs h1 h2
  go_enter Tryz.func61, Tryz.ntmps61
  go_wp2
  go_ret
  exact ⟨by rw [← H2.out]; rfl, rfl⟩

/-- The digits of bytes, the last one first; a sign is left out. -/
def ds (l : List UInt8) : List Nat := ((l.filter (fun c => c != 45)).map (fun c => c.toNat - 48)).reverse

theorem ds_sign (l : List UInt8) : ds (45 :: l) = ds l := by simp [ds]
theorem ds_dig (c : UInt8) (l : List UInt8) (h : c ≠ 45) : ds (c :: l) = ds l ++ [c.toNat - 48] := by simp [ds, h]
theorem ds_len (l : List UInt8) : (ds l).length ≤ l.length := by
  unfold ds; rw [List.length_reverse, List.length_map]; exact List.length_filter_le _ _

theorem ds_all (l : List UInt8) (h : ∀ c ∈ l, isDig c = true) : val 10 (ds l) = dv l ∧ ∀ x ∈ ds l, x < 10 := by
  have hf : l.filter (fun c => c != 45) = l := by
    rw [List.filter_eq_self]
    intro c hc
    have := dig_bound (h c hc)
    simp
    rintro rfl
    exact absurd this.1 (by decide)
  unfold ds
  rw [hf]
  refine ⟨?_, ?_⟩
  · clear hf
    revert h
    refine snocInd (P := fun l => (∀ c ∈ l, isDig c = true) → val 10 ((l.map (fun c => c.toNat - 48)).reverse) = dv l) ?_ ?_ l
    · intro _; rfl
    · intro l c ih h
      have h1 := ih (fun x hx => h x (by simp [hx]))
      rw [List.map_append, List.reverse_append, dv_snoc, ← h1]
      show val 10 ((c.toNat - 48) :: (l.map (fun c => c.toNat - 48)).reverse) = _
      rw [val_cons]; omega
  · intro x hx
    simp at hx
    obtain ⟨c, hc, rfl⟩ := hx
    have := dig_bound (h c hc)
    omega

theorem ds_itoa (z : Int) : val 10 (ds (Lib.itoa z)) = z.natAbs ∧ ∀ x ∈ ds (Lib.itoa z), x < 10 := by
  unfold Lib.itoa
  by_cases hz : z < 0
  · rw [if_pos hz, ds_sign]
    obtain ⟨h1, h2, -, -⟩ := decDigits_facts z.natAbs
    have := ds_all _ h2
    exact ⟨by rw [this.1, h1], this.2⟩
  · rw [if_neg hz]
    obtain ⟨h1, h2, -, -⟩ := decDigits_facts z.toNat
    have := ds_all _ h2
    exact ⟨by rw [this.1, h1]; omega, this.2⟩

theorem itoa_bytes (z : Int) : ∀ c ∈ Lib.itoa z, c = 45 ∨ isDig c = true := by
  unfold Lib.itoa
  intro c hc
  by_cases hz : z < 0
  · rw [if_pos hz] at hc
    rcases List.mem_cons.1 hc with h | h
    · exact .inl h
    · exact .inr ((decDigits_facts z.natAbs).2.1 c h)
  · rw [if_neg hz] at hc
    exact .inr ((decDigits_facts z.toNat).2.1 c hc)
end Go.Proofs.YtnfmcdfdbipeoaaGreatDoor

namespace Go.Proofs.YtnfmcdfdbipeoaaGreatDoor
open Go.RowKit Go.Proofs.Num

theorem info3 : (Tryz.prog.info? 3).map (fun i => (i.zero, i.size, i.bytes)) = some (some (.int .i64 0), 1, 8) := by kernel_rfl

/-- Hands back a slice that reads as a number. -/
def GivesDg (w : World) (n : Nat) (e : Ending) (w' : World) : Prop := ∃ v', e = .returned v' ∧ Dg w' v' n ∧ Below w.heap.size w w'

theorem Dg.shape {w : World} {v : Value} {n : Nat} (h : Dg w v n) : ∃ a k cap, v = .slice a k cap := by
  obtain ⟨a, cap, rfl⟩ := Rd.shape h
  exact ⟨a, _, cap, rfl⟩

theorem drop_str (s : ByteArray) (m : Nat) (h : m < s.size) : s.data.toList.drop m = s[m] :: s.data.toList.drop (m + 1) := by
  rw [List.drop_eq_getElem_cons (by rw [size_toList]; exact h)]
  rfl

theorem row_below {w wr w1 : World} {v : Value} {n : Nat} {xs : List Value} {e : TypeId} {o : Obj} (hB : Below w.heap.size w wr) (hrow : wr.ownsRow w.heap.size e 1 v n xs) (hg : (wr.alloc o).grownBy w1 v.ownBlock) : Below w.heap.size w w1 :=
  (hB.alloc hB.size _).grown hg (Nat.le_trans hB.size (by rw [World.size_alloc]; omega)) (fun k hk => (hrow.lt k hk).1)

set_option maxHeartbeats 1600000 in
set_option maxRecDepth 100000 in
theorem digits_any (z : Int) (hsz : (T z).size ≤ 4294967296) (w : World) : Calls Tryz.prog 101 #[.string (T z)] w (GivesDg w z.natAbs) := by
  obtain ⟨i0, hi, hz0, hz1, hz2⟩ := info_parts info3
  have hb := itoa_bytes z
  obtain ⟨hv, hlt⟩ := ds_itoa z
  have hlen := ds_len (Lib.itoa z)
  rw [← T_data] at hb hv hlt hlen
  generalize z.natAbs = n at *
  generalize T z = s at *
  rw [size_toList] at hlen
  have HB := Lib.hid hb
  have HV := Lib.hid hv
  have HL := Lib.hid hlt
  have HN := Lib.hid hlen
  clear hb hv hlt hlen
  go_enter Tryz.func101, Tryz.ntmps101
  go_wp2
  go_loopw [3, 4] (fun out i wr => ∃ j : Nat, j ≤ s.size ∧ i = .int .i64 ((j : Int) - 1) ∧ wr.ownsRow w.heap.size 3 1 out (ds (s.data.toList.drop j)).length (cellsOf .i64 (ds (s.data.toList.drop j))) ∧ Below w.heap.size w wr)
    (fun _ i _ => (intOf i + 1).toNat)
  case atStart => exact ⟨s.size, Nat.le_refl _, rfl, by rw [List.drop_of_length_le (by rw [size_toList]; omega)]; exact World.ownsRow_nil _ _ _ _, Below.refl _ _⟩
  case round =>
    obtain ⟨j, hj, rfl, hrow, hB⟩ := hrel
    rcases j with _ | m
    · rw [show (((0 : Nat) : Int) - 1) = -1 by omega]
      rw [List.drop_zero] at hrow
      have hrd := Rd.of_own hrow
      have hlen2 : (ds s.data.toList).length ≤ 4294967296 := by have := HN.out; omega
      go_wp2_with fail
      refine (cut_any _ _ _ hrd HL.out hlen2).mono ?_
      rintro e w' ⟨v', rfl, hd, rfl⟩
      obtain ⟨a', k', cap', rfl⟩ := hd.shape
      go_wp2
      go_ret
      exact ⟨_, rfl, by rw [← HV.out]; exact hd, hB⟩
    · rw [show (((m + 1 : Nat) : Int) - 1) = (m : Int) by omega]
      have hlt : m < s.size := by omega
      have HD := Lib.hid (drop_str s m hlt)
      have hmem : s[m] ∈ s.data.toList := mem_str s m hlt
      have hlen3 : (ds (s.data.toList.drop (m + 1))).length ≤ 4294967296 := by
        have := ds_len (s.data.toList.drop (m + 1))
        rw [List.length_drop, size_toList] at this
        omega
      rcases HB.out _ hmem with h45 | hdig
      · have h45n : s[m].toNat = 45 := by rw [h45]; rfl
        have h45i : (((s[m].toNat : Nat) : Int) == 45) = true := by simp [h45n]
        have HC := Lib.hid h45
        clear h45 h45n hmem
        go_wp2
        go_roundw
        case rel => exact ⟨m, by omega, by go_num, by rw [HD.out, HC.out, ds_sign]; exact hrow, hB⟩
        case measure => simp [intOf]
      · obtain ⟨d0, d1⟩ := dig_bound hdig
        have h45 : s[m] ≠ 45 := by intro h; rw [h] at d0; exact absurd d0 (by decide)
        have h45i : (((s[m].toNat : Nat) : Int) == 45) = false := by simp; omega
        have hcast : (((s[m].toNat - 48 : Nat)) : Int) = (s[m].toNat : Int) - 48 := by omega
        have HC := Lib.hid h45
        have HK := Lib.hid hcast
        clear h45 hdig hmem hcast
        go_wp2_with (at_builtin; refine wpList_append_own _ rfl _ _ 80 rfl w.heap.size 3 i0 (.int .i64 0) 1 8 Tryz.underlying80 hi hz0 hz1 hz2 rfl (by decide) u3 (ds (s.data.toList.drop (m + 1))).length _ rfl (hrow.alloc _) ⟨wr.heap.size, 0, none⟩ 1 1 [_] rfl rfl (cell_one_new _ _ _) (by simp [Value.oneCell']) (by unfold maxLen; omega) (by omega) (by have := hB.size; simp; omega) ?_; intro v' w1 hown1 hgrow1 _)
        go_roundw
        case rel =>
          refine ⟨m, by omega, by go_num, ?_, row_below hB hrow hgrow1⟩
          rw [HD.out, ds_dig _ _ HC.out, List.length_append, cellsOf_append, cellsOf_one, HK.out]
          exact hown1
        case measure => simp [intOf]

theorem order_step {l m : List Nat} {k : Nat} (hk : k < l.length) (hlm : l.length = m.length) (hd : l.drop (k + 1) = m.drop (k + 1)) (h : nth l k = nth m k) : l.drop k = m.drop k := by
  rw [List.drop_eq_getElem_cons hk, List.drop_eq_getElem_cons (show k < m.length by omega)]
  unfold nth at h
  rw [getD_get l k hk, getD_get m k (by omega)] at h
  rw [h, hd]

set_option maxHeartbeats 1600000 in
set_option maxRecDepth 100000 in
theorem order_eq (a1 a2 : Option Addr) (c1 c2 : Nat) (l m : List Nat) (w : World) (h1 : At .i64 w a1 l) (h2 : At .i64 w a2 m) (hl : ∀ x ∈ l, x < 10) (hm : ∀ x ∈ m, x < 10)
    (hlm : l.length = m.length) (hsm : l.length ≤ 4294967295) :
    Calls Tryz.prog 103 #[.slice a1 l.length c1, .slice a2 m.length c2] w fun e w' => e = .returned (.int .i64 (cmpN (val 10 l) (val 10 m))) ∧ ∃ n, w' = w.drewN n := by
  have HLM := Lib.hid hlm
  rw [show m.length = l.length from hlm.symm]
  clear hlm
  go_enter Tryz.func103, Tryz.ntmps103
  go_wp2
  go_loopw [5] (fun i wr => ∃ (j : Nat), j ≤ l.length ∧ i = .int .i64 ((j : Int) - 1) ∧ l.drop j = m.drop j ∧ ∃ n, wr = w.drewN n) (fun i _ => (intOf i + 1).toNat)
  case atStart => exact ⟨l.length, Nat.le_refl _, rfl, by rw [List.drop_of_length_le (by omega), List.drop_of_length_le (by have := HLM.out; omega)], 0, rfl⟩
  case round =>
    obtain ⟨j, hj, rfl, hd, nd, rfl⟩ := hrel
    rcases j with _ | k
    · rw [show (((0 : Nat) : Int) - 1) = -1 by omega]
      have hv : cmpN (val 10 l) (val 10 m) = 0 := by
        have : l = m := hd
        unfold cmpN; rw [this, if_neg (by omega), if_neg (by omega)]
      have HV := Lib.hid hv
      clear hv hd
      go_wp2
      go_ret
      exact ⟨by rw [HV.out]; rfl, _, rfl⟩
    · rw [show (((k + 1 : Nat) : Int) - 1) = (k : Int) by omega]
      have hml := HLM.out
      have hkl : k < l.length := by omega
      obtain ⟨b1, o1, rfl, hb1, hcell1⟩ := h1 k hkl
      obtain ⟨b2, o2, rfl, hb2, hcell2⟩ := h2 k (by omega)
      have HD := Lib.hid hd
      clear hd
      rcases (show nth l k < nth m k ∨ nth m k < nth l k ∨ nth l k = nth m k by omega) with h | h | h
      · have hv : cmpN (val 10 l) (val 10 m) = -1 := by
          have := val_lt_of_top (b := 10) (by omega) l m k hkl HLM.out hl HD.out h
          unfold cmpN; rw [if_pos this]
        have HV := Lib.hid hv
        clear hv hml
        have hne : ((nth l k : Nat) : Int) ≠ ((nth m k : Nat) : Int) := by omega
        have hlt : ((nth l k : Nat) : Int) < ((nth m k : Nat) : Int) := by omega
        clear h
        go_wp2
        go_quiet (fail)
        go_wp2
        go_quiet (fail)
        go_wp2
        go_ret
        exact ⟨by rw [HV.out]; rfl, _, (World.drewN_drewN _ _ _).trans (World.drewN_drewN _ _ _)⟩
      · have hv : cmpN (val 10 l) (val 10 m) = 1 := by
          have := val_lt_of_top (b := 10) (by omega) m l k (by omega) HLM.out.symm hm HD.out.symm h
          unfold cmpN; rw [if_neg (by omega), if_pos this]
        have HV := Lib.hid hv
        clear hv hml
        have hne : ((nth l k : Nat) : Int) ≠ ((nth m k : Nat) : Int) := by omega
        have hge : ¬ ((nth l k : Nat) : Int) < ((nth m k : Nat) : Int) := by omega
        clear h
        go_wp2
        go_quiet (fail)
        go_wp2
        go_quiet (fail)
        go_wp2
        go_ret
        exact ⟨by rw [HV.out]; rfl, _, (World.drewN_drewN _ _ _).trans (World.drewN_drewN _ _ _)⟩
      · have HD' := Lib.hid (order_step hkl hml HD.out h)
        have hne : ((nth l k : Nat) : Int) = ((nth m k : Nat) : Int) := by omega
        clear h
        go_wp2
        go_quiet (fail)
        go_wp2
        go_roundw
        case rel => exact ⟨k, by omega, by go_num, HD'.out, _, rfl⟩
        case measure => simp [intOf]

set_option maxRecDepth 100000 in
theorem order_ne (a1 a2 : Option Addr) (c1 c2 : Nat) (k n : Nat) (w : World) (hne : k ≠ n) (_ : k ≤ 4294967295) (_ : n ≤ 4294967295) :
    Calls Tryz.prog 103 #[.slice a1 k c1, .slice a2 n c2] w fun e w' => e = .returned (.int .i64 (cmpN k n)) ∧ w = w' := by
  rcases (show k < n ∨ n < k by omega) with h | h
  · have HV : Hid (cmpN k n = -1) := by unfold Hid cmpN; rw [if_pos h]
    go_enter Tryz.func103, Tryz.ntmps103
    go_wp2
    go_ret
    exact ⟨by rw [HV.out]; rfl, rfl⟩
  · have HV : Hid (cmpN k n = 1) := by unfold Hid cmpN; rw [if_neg (by omega), if_pos h]
    have hge : ¬ k < n := by omega
    go_enter Tryz.func103, Tryz.ntmps103
    go_wp2
    go_ret
    exact ⟨by rw [HV.out]; rfl, rfl⟩

theorem dig10_lt (n : Nat) : ∀ x ∈ dig 10 n, x < 10 := dig_lt (by omega) n
theorem val_dig10 (n : Nat) : val 10 (dig 10 n) = n := val_dig (by omega) n

/-- order -/
theorem rorder_any (v1 v2 : Value) (m n : Nat) (w : World) (h1 : Dg w v1 m) (h2 : Dg w v2 n) (hm : (dig 10 m).length ≤ 4294967295) (hn : (dig 10 n).length ≤ 4294967295) :
    Calls Tryz.prog 103 #[v1, v2] w fun e w' => e = .returned (.int .i64 (cmpN m n)) ∧ ∃ k, w' = w.drewN k := by
  obtain ⟨a1, c1, rfl, g1⟩ := Rd.at h1
  obtain ⟨a2, c2, rfl, g2⟩ := Rd.at h2
  by_cases h : (dig 10 m).length = (dig 10 n).length
  · have := order_eq a1 a2 c1 c2 _ _ w g1 g2 (dig10_lt m) (dig10_lt n) h hm
    rwa [val_dig10, val_dig10] at this
  · refine (order_ne a1 a2 c1 c2 _ _ w h hm hn).mono ?_
    rintro e w' ⟨rfl, rfl⟩
    refine ⟨?_, 0, rfl⟩
    congr 2
    unfold cmpN
    rcases Nat.lt_or_gt_of_ne h with h | h
    · rw [if_pos h, if_pos (val_lt_of_length (by omega) m n h)]
    · rw [if_neg (by omega), if_pos h]
      have := val_lt_of_length (b := 10) (by omega) n m h
      rw [if_neg (by omega), if_pos this]
end Go.Proofs.YtnfmcdfdbipeoaaGreatDoor

namespace Go.Proofs.YtnfmcdfdbipeoaaGreatDoor
open Go.RowKit Go.Proofs.Num

/-- The state of the loop that adds. -/
def AddD (l m : List Nat) (k c : Nat) (o : List Nat) : Prop :=
  o.length = k ∧ c ≤ 1 ∧ (∀ x ∈ o, x < 10) ∧ val 10 o + c * 10 ^ k = val 10 (l.take k) + val 10 (m.take k)

theorem addD_zero (l m : List Nat) : AddD l m 0 0 [] := ⟨rfl, by omega, by simp, by simp [val_nil]⟩

theorem addD_step {l m : List Nat} {k c : Nat} {o : List Nat} (h : AddD l m k c o) (hl : ∀ x ∈ l, x < 10) (hm : ∀ x ∈ m, x < 10) :
    AddD l m (k + 1) ((c + nth l k + nth m k) / 10) (o ++ [(c + nth l k + nth m k) % 10]) := by
  obtain ⟨h1, h2, h3, h4⟩ := h
  have hx := nth_lt (b := 10) (by omega) l hl k
  have hy := nth_lt (b := 10) (by omega) m hm k
  refine ⟨by simp [h1], by omega, ?_, ?_⟩
  · intro x hx'
    rcases List.mem_append.1 hx' with hx' | hx'
    · exact h3 x hx'
    · simp at hx'; omega
  · rw [val_snoc, h1, val_take_nth, val_take_nth]
    exact add_step 10 k _ c _ _ _ _ _ h4 rfl

theorem norm_of_le {o : List Nat} (h : ∀ x ∈ o, x < 10) (hk : o.length = 0 ∨ 10 ^ (o.length - 1) ≤ val 10 o) : dig 10 (val 10 o) = o := by
  refine dig_val (by omega) o ⟨h, fun h0 => ?_⟩
  obtain ⟨o', rfl⟩ := List.getLast?_eq_some_iff.1 h0
  have h1 := val_lt (b := 10) (by omega) o' (fun x hx => h x (by simp [hx]))
  rw [val_snoc, List.length_append] at hk
  simp at hk
  omega

/-- The slice holds a number's digits; the top is above. -/
theorem addD_top {A B k c : Nat} {o : List Nat} (h : AddD (dig 10 A) (dig 10 B) k c o) (hk : k < (dig 10 A).length ∨ k < (dig 10 B).length ∨ 0 < c) : 10 ^ k ≤ A + B := by
  rcases hk with hk | hk | hk
  · have := pow_le_of_dig (b := 10) (by omega) A k hk; omega
  · have := pow_le_of_dig (b := 10) (by omega) B k hk; omega
  · by_cases h1 : k < (dig 10 A).length
    · have := pow_le_of_dig (b := 10) (by omega) A k h1; omega
    · by_cases h2 : k < (dig 10 B).length
      · have := pow_le_of_dig (b := 10) (by omega) B k h2; omega
      · have h4 := h.2.2.2
        rw [List.take_of_length_le (by omega), List.take_of_length_le (by omega), val_dig10, val_dig10] at h4
        have h5 : 10 ^ k ≤ c * 10 ^ k := Nat.le_mul_of_pos_left _ hk
        omega

theorem add_short {A B M : Nat} (hA : (dig 10 A).length ≤ M) (hB : (dig 10 B).length ≤ M) : A + B < 10 ^ (M + 1) := by
  have h1 := lt_pow_dig (b := 10) (by omega) A
  have h2 := lt_pow_dig (b := 10) (by omega) B
  have h3 : 10 ^ (dig 10 A).length ≤ 10 ^ M := Nat.pow_le_pow_right (by omega) hA
  have h4 : 10 ^ (dig 10 B).length ≤ 10 ^ M := Nat.pow_le_pow_right (by omega) hB
  rw [Nat.pow_succ]; omega

theorem addD_end {A B k : Nat} {o : List Nat} (h : AddD (dig 10 A) (dig 10 B) k 0 o) (hA : (dig 10 A).length ≤ k) (hB : (dig 10 B).length ≤ k) (hk : k = 0 ∨ 10 ^ (k - 1) ≤ A + B) : o = dig 10 (A + B) := by
  obtain ⟨h1, h2, h3, h4⟩ := h
  rw [List.take_of_length_le hA, List.take_of_length_le hB, val_dig10, val_dig10, Nat.zero_mul, Nat.add_zero] at h4
  rw [← h4]
  exact (norm_of_le h3 (by rw [h1, h4]; exact hk)).symm

theorem castD1 (c x y : Nat) : (((c + x + y) % 10 : Nat) : Int) = ((c : Int) + (x + y)) % 10 := by omega
theorem castD2 (c x y : Nat) : (((c + x + y) / 10 : Nat) : Int) = ((c : Int) + (x + y)) / 10 := by omega

set_option maxHeartbeats 3200000 in
set_option maxRecDepth 100000 in
theorem added_at (a1 a2 : Option Addr) (c1 c2 : Nat) (A B M : Nat) (w : World) (h1 : At .i64 w a1 (dig 10 A)) (h2 : At .i64 w a2 (dig 10 B)) (hA : (dig 10 A).length ≤ M) (hB' : (dig 10 B).length ≤ M) (hM : M ≤ 4294967295) :
    Calls Tryz.prog 102 #[.slice a1 (dig 10 A).length c1, .slice a2 (dig 10 B).length c2] w (GivesDg w (A + B)) := by
  obtain ⟨i0, hi, hz0, hz1, hz2⟩ := info_parts info3
  have hs := add_short hA hB'
  have hlA := dig10_lt A
  have hlB := dig10_lt B
  have HAB := Lib.hid (show ∀ k c o, AddD (dig 10 A) (dig 10 B) k c o → k < (dig 10 A).length ∨ k < (dig 10 B).length ∨ 0 < c → 10 ^ k ≤ A + B ∧ k ≤ M from fun k c o h hk => by
    have h3 := addD_top h hk
    exact ⟨h3, by have := (Nat.pow_lt_pow_iff_right (a := 10) (by omega)).1 (Nat.lt_of_le_of_lt h3 hs); omega⟩)
  have HEND := Lib.hid (fun (k : Nat) (o : List Nat) (h : AddD (dig 10 A) (dig 10 B) k 0 o) (hA : (dig 10 A).length ≤ k) (hB : (dig 10 B).length ≤ k) (hk : k = 0 ∨ 10 ^ (k - 1) ≤ A + B) => addD_end h hA hB hk)
  have HST := Lib.hid (fun (k c : Nat) (o : List Nat) (h : AddD (dig 10 A) (dig 10 B) k c o) => addD_step h hlA hlB)
  have HD1 := Lib.hid (fun (i : Nat) (w' : World) (h : At .i64 w' a1 (dig 10 A)) (hi : i ≤ 4294967296) => digit_at a1 c1 (dig 10 A) i w' h (by omega) hi)
  have HD2 := Lib.hid (fun (i : Nat) (w' : World) (h : At .i64 w' a2 (dig 10 B)) (hi : i ≤ 4294967296) => digit_at a2 c2 (dig 10 B) i w' h (by omega) hi)
  have HX := Lib.hid (fun k => nth_lt (b := 10) (by omega) (dig 10 A) hlA k)
  have HY := Lib.hid (fun k => nth_lt (b := 10) (by omega) (dig 10 B) hlB k)
  have H1 := Lib.hid h1
  have H2 := Lib.hid h2
  have H0 := Lib.hid (addD_zero (dig 10 A) (dig 10 B))
  clear hs hlA hlB h1 h2
  unfold GivesDg Dg
  generalize hn : A + B = n at *
  generalize dig 10 A = l at *
  generalize dig 10 B = m at *
  clear hn
  go_enter Tryz.func102, Tryz.ntmps102
  go_wp2
  go_loopw [5, 6, 7] (fun out car i wr => ∃ (k c : Nat) (o : List Nat), i = .int .i64 k ∧ car = .int .i64 c ∧ wr.ownsRow w.heap.size 3 1 out o.length (cellsOf .i64 o) ∧ AddD l m k c o ∧ k ≤ M + 1 ∧ (k = 0 ∨ 10 ^ (k - 1) ≤ n) ∧ Below w.heap.size w wr)
    (fun _ _ i _ => M + 2 - (intOf i).toNat)
  case atStart => exact ⟨0, 0, [], rfl, rfl, World.ownsRow_nil _ _ _ _, H0.out, by omega, .inl rfl, Below.refl _ _⟩
  case round =>
    obtain ⟨k, c, o, rfl, rfl, hown, hI, hkM, hk, hB⟩ := hrel
    have hc1 := hI.2.1
    have hol := hI.1
    by_cases hgo : k < l.length ∨ k < m.length ∨ 0 < c
    · obtain ⟨g1, g2⟩ := HAB.out k c o hI hgo
      have HI := Lib.hid (HST.out k c o hI)
      have hx := HX.out k
      have hy := HY.out k
      have HP := Lib.hid g1
      have HK := Lib.hid (H1.out.keep hB)
      have HK2 := Lib.hid (H2.out.keep hB)
      clear g1 hI hk
      obtain ⟨p, hp⟩ : ∃ p, p = nth l k := ⟨_, rfl⟩
      obtain ⟨q, hq⟩ : ∃ q, q = nth m k := ⟨_, rfl⟩
      have D1 := Lib.hid (HD1.out k wr HK.out (by omega))
      have D2 := Lib.hid (HD2.out k wr HK2.out (by omega))
      rw [← hp] at hx D1 HI
      rw [← hq] at hy D2 HI
      clear hp hq
      have E1 := Lib.hid (castD1 c p q)
      have E2 := Lib.hid (castD2 c p q)
      rcases (show k < l.length ∨ (¬ k < l.length ∧ k < m.length) ∨ (¬ k < l.length ∧ ¬ k < m.length ∧ 0 < c) by omega) with t | ⟨t1, t2⟩ | ⟨t1, t2, t3⟩
      all_goals
        clear hgo
        go_wp2_with fail
        refine (D1.out).mono ?_
        rintro e w' ⟨rfl, rfl⟩
        go_wp2_with fail
        refine (D2.out).mono ?_
        rintro e w' ⟨rfl, rfl⟩
        go_wp2_with (at_builtin; refine wpList_append_own _ rfl _ _ 80 rfl w.heap.size 3 i0 (.int .i64 0) 1 8 Tryz.underlying80 hi hz0 hz1 hz2 rfl (by decide) u5 o.length _ rfl (hown.alloc _) ⟨wr.heap.size, 0, none⟩ 1 1 [_] rfl rfl (cell_one_new _ _ _) (by simp [Value.oneCell']) (by unfold maxLen; omega) (by omega) (by have := hB.size; simp; omega) ?_; intro v' w1 hown1 hgrow1 _)
        go_roundw
        case rel =>
          refine ⟨k + 1, _, _, by go_num, ?_, ?_, HI.out, by omega, .inr HP.out, row_below hB hown hgrow1⟩
          · rw [E2.out]
          · rw [List.length_append, cellsOf_append, cellsOf_one, E1.out]
            exact hown1
        case measure => simp [intOf]; omega
    · have hk1 : ¬ k < l.length := by omega
      have hk2 : ¬ k < m.length := by omega
      obtain rfl : c = 0 := by omega
      have HE := Lib.hid (HEND.out k o hI (by omega) (by omega) hk)
      clear hI hk hgo
      go_wp2
      go_ret
      exact ⟨_, rfl, by rw [← HE.out]; exact Rd.of_own hown, hB⟩

/-- The state of the loop that takes away. -/
def SubD (l m : List Nat) (k r : Nat) (o : List Nat) : Prop :=
  o.length = k ∧ r ≤ 1 ∧ (∀ x ∈ o, x < 10) ∧ val 10 o + val 10 (m.take k) = val 10 (l.take k) + r * 10 ^ k

theorem subD_zero (l m : List Nat) : SubD l m 0 0 [] := ⟨rfl, by omega, by simp, by simp [val_nil]⟩

theorem subD_step {l m : List Nat} {k r : Nat} {o : List Nat} (h : SubD l m k r o) (hl : ∀ x ∈ l, x < 10) (hm : ∀ x ∈ m, x < 10) :
    SubD l m (k + 1) (1 - (nth l k + (10 - r) - nth m k) / 10) (o ++ [(nth l k + (10 - r) - nth m k) % 10]) := by
  obtain ⟨h1, h2, h3, h4⟩ := h
  have hx := nth_lt (b := 10) (by omega) l hl k
  have hy := nth_lt (b := 10) (by omega) m hm k
  refine ⟨by simp [h1], by omega, ?_, ?_⟩
  · intro x hx'
    rcases List.mem_append.1 hx' with hx' | hx'
    · exact h3 x hx'
    · simp at hx'; omega
  · rw [val_snoc, h1, val_take_nth, val_take_nth]
    exact sub_step 10 k _ r _ _ _ _ _ h4 (by omega) (by omega)

theorem subD_ge {l m : List Nat} {k r : Nat} {o : List Nat} (h : SubD l m k r o) (hl : ∀ x ∈ l, x < 10) (hm : ∀ x ∈ m, x < 10) (hge : nth m k + r ≤ nth l k) :
    SubD l m (k + 1) 0 (o ++ [nth l k - nth m k - r]) := by
  have hs := subD_step h hl hm
  have hr := h.2.1
  have hx := nth_lt (b := 10) (by omega) l hl k
  rwa [show 1 - (nth l k + (10 - r) - nth m k) / 10 = 0 by omega, show (nth l k + (10 - r) - nth m k) % 10 = nth l k - nth m k - r by omega] at hs

theorem subD_lt {l m : List Nat} {k r : Nat} {o : List Nat} (h : SubD l m k r o) (hl : ∀ x ∈ l, x < 10) (hm : ∀ x ∈ m, x < 10) (hlt : nth l k < nth m k + r) :
    SubD l m (k + 1) 1 (o ++ [nth l k + 10 - nth m k - r]) := by
  have hs := subD_step h hl hm
  have hr := h.2.1
  have hy := nth_lt (b := 10) (by omega) m hm k
  rwa [show 1 - (nth l k + (10 - r) - nth m k) / 10 = 1 by omega, show (nth l k + (10 - r) - nth m k) % 10 = nth l k + 10 - nth m k - r by omega] at hs

theorem subD_end {l m : List Nat} {r : Nat} {o : List Nat} (h : SubD l m l.length r o) (hm : m.length ≤ l.length) (hle : val 10 m ≤ val 10 l) :
    val 10 o = val 10 l - val 10 m ∧ (∀ x ∈ o, x < 10) := by
  obtain ⟨h1, h2, h3, h4⟩ := h
  rw [List.take_of_length_le (Nat.le_refl _), List.take_of_length_le hm] at h4
  refine ⟨?_, h3⟩
  have h5 := val_lt (b := 10) (by omega) o h3
  rw [h1] at h5
  rcases (show r = 0 ∨ r = 1 by omega) with rfl | rfl <;> omega

set_option maxHeartbeats 3200000 in
set_option maxRecDepth 100000 in
theorem taken_at (a1 a2 : Option Addr) (c1 c2 : Nat) (l m : List Nat) (w : World) (h1 : At .i64 w a1 l) (h2 : At .i64 w a2 m) (hl : ∀ x ∈ l, x < 10) (hm : ∀ x ∈ m, x < 10)
    (hlm : m.length ≤ l.length) (hle : val 10 m ≤ val 10 l) (hsm : l.length ≤ 4294967295) :
    Calls Tryz.prog 104 #[.slice a1 l.length c1, .slice a2 m.length c2] w (GivesDg w (val 10 l - val 10 m)) := by
  obtain ⟨i0, hi, hz0, hz1, hz2⟩ := info_parts info3
  have HLE := Lib.hid hle
  have HGE := Lib.hid (fun (k r : Nat) (o : List Nat) (h : SubD l m k r o) => subD_ge h hl hm)
  have HLT := Lib.hid (fun (k r : Nat) (o : List Nat) (h : SubD l m k r o) => subD_lt h hl hm)
  have HD := Lib.hid (fun (i : Nat) (w' : World) (h : At .i64 w' a2 m) (hi : i ≤ 4294967296) => digit_at a2 c2 m i w' h (by omega) hi)
  have H1 := Lib.hid h1
  have H2 := Lib.hid h2
  have HX := Lib.hid (fun k => nth_lt (b := 10) (by omega) l hl k)
  have HY := Lib.hid (fun k => nth_lt (b := 10) (by omega) m hm k)
  clear hle h1 h2 hl hm
  go_enter Tryz.func104, Tryz.ntmps104
  go_wp2
  go_loopw [5, 6, 7] (fun out bor i wr => ∃ (k r : Nat) (o : List Nat), k ≤ l.length ∧ i = .int .i64 k ∧ bor = .int .i64 r ∧ wr.ownsRow w.heap.size 3 1 out o.length (cellsOf .i64 o) ∧ SubD l m k r o ∧ Below w.heap.size w wr)
    (fun _ _ i _ => l.length - (intOf i).toNat)
  case atStart => exact ⟨0, 0, [], Nat.zero_le _, rfl, rfl, World.ownsRow_nil _ _ _ _, subD_zero l m, Below.refl _ _⟩
  case round =>
    obtain ⟨k, r, o, hk, rfl, rfl, hown, hI, hB⟩ := hrel
    have hc1 := hI.2.1
    have hol := hI.1
    by_cases hlt : k < l.length
    · obtain ⟨b1, o1, rfl, hb1, hcell1⟩ := H1.out k hlt
      have hcr : wr.cell? ⟨b1, o1 + k, none⟩ = some (.int .i64 ((nth l k : Nat) : Int)) := (hB.cell (p := ⟨b1, o1 + k, none⟩) hb1).trans hcell1
      clear hcell1
      have hx := HX.out k
      have hy := HY.out k
      have HI := Lib.hid hI
      have HK2 := Lib.hid (H2.out.keep hB)
      have hD : ∀ n, Calls Tryz.prog 139 #[.slice a2 m.length c2, .int .i64 ((k : Nat) : Int)] (wr.drewN n) fun e w' => e = .returned (.int .i64 ((nth m k : Nat) : Int)) ∧ w' = wr.drewN n := fun n =>
        (HD.out k (wr.drewN n) (HK2.out.keep ⟨rfl, rfl, rfl, Nat.le_refl _, fun _ _ => rfl⟩) (by omega)).mono fun e w' ⟨he, hw⟩ => ⟨he, hw.symm⟩
      have G := Lib.hid (HGE.out k r o hI)
      have L := Lib.hid (HLT.out k r o hI)
      clear hI
      obtain ⟨p, hp⟩ : ∃ p, p = nth l k := ⟨_, rfl⟩
      obtain ⟨q, hq⟩ : ∃ q, q = nth m k := ⟨_, rfl⟩
      rw [← hp] at hx hcr G L
      rw [← hq] at hy hD G L
      clear hp hq
      have D := Lib.hid hD
      clear hD
      rcases (show q + r ≤ p ∨ p < q + r by omega) with t | t
      · have GG := Lib.hid (G.out t)
        have e0 : ((p - q - r : Nat) : Int) = (p : Int) - q - r := by omega
        have E0 := Lib.hid e0
        clear e0 G L
        have ht : (r : Int) ≤ (p : Int) - q := by omega
        have w1 : IntKind.i64.wrap ((p : Int) - (q : Int)) = (p : Int) - q := IntWalk.i64_in _ (by omega)
        have w2 : IntKind.i64.wrap ((p : Int) - (q : Int) - (r : Int)) = (p : Int) - q - r := IntWalk.i64_in _ (by omega)
        go_wp2
        go_quiet ((go_at_call 139; exact Calls.quiet_of_same (D.out _)))
        clear w1 w2
        have hownq : (wr.drewN nq).ownsRow w.heap.size 3 1 u5 o.length (cellsOf .i64 o) := hown
        have hBq : Below w.heap.size w (wr.drewN nq) := hB.trans ⟨rfl, rfl, rfl, Nat.le_refl _, fun _ _ => rfl⟩
        go_wp2_with (at_builtin; refine wpList_append_own _ rfl _ _ 80 rfl w.heap.size 3 i0 (.int .i64 0) 1 8 Tryz.underlying80 hi hz0 hz1 hz2 rfl (by decide) u5 o.length _ rfl (hownq.alloc _) ⟨wr.heap.size, 0, none⟩ 1 1 [_] rfl rfl (cell_one_new _ _ _) (by simp [Value.oneCell']) (by unfold maxLen; omega) (by omega) (by have := hBq.size; rw [World.size_alloc]; omega) ?_; intro v' w1 hown1 hgrow1 _)
        go_roundw
        case rel =>
          refine ⟨k + 1, _, _, by omega, by go_num, rfl, ?_, GG.out, row_below hBq hownq hgrow1⟩
          rw [List.length_append, cellsOf_append, cellsOf_one, E0.out]
          exact hown1
        case measure => simp [intOf]; omega
      · have LL := Lib.hid (L.out t)
        have e0 : ((p + 10 - q - r : Nat) : Int) = (p : Int) - q - r + 10 := by omega
        have E0 := Lib.hid e0
        clear e0 G L
        have ht : (p : Int) - q < (r : Int) := by omega
        have ht2 : (p : Int) - q - r < 0 := by omega
        have w1 : IntKind.i64.wrap ((p : Int) - (q : Int)) = (p : Int) - q := IntWalk.i64_in _ (by omega)
        have w2 : IntKind.i64.wrap ((p : Int) - (q : Int) - (r : Int)) = (p : Int) - q - r := IntWalk.i64_in _ (by omega)
        go_wp2
        go_quiet ((go_at_call 139; exact Calls.quiet_of_same (D.out _)))
        clear w1 w2
        have hownq : (wr.drewN nq).ownsRow w.heap.size 3 1 u5 o.length (cellsOf .i64 o) := hown
        have hBq : Below w.heap.size w (wr.drewN nq) := hB.trans ⟨rfl, rfl, rfl, Nat.le_refl _, fun _ _ => rfl⟩
        go_wp2_with (at_builtin; refine wpList_append_own _ rfl _ _ 80 rfl w.heap.size 3 i0 (.int .i64 0) 1 8 Tryz.underlying80 hi hz0 hz1 hz2 rfl (by decide) u5 o.length _ rfl (hownq.alloc _) ⟨wr.heap.size, 0, none⟩ 1 1 [_] rfl rfl (cell_one_new _ _ _) (by simp [Value.oneCell']) (by unfold maxLen; omega) (by omega) (by have := hBq.size; rw [World.size_alloc]; omega) ?_; intro v' w1 hown1 hgrow1 _)
        go_roundw
        case rel =>
          refine ⟨k + 1, _, _, by omega, by go_num, rfl, ?_, LL.out, row_below hBq hownq hgrow1⟩
          rw [List.length_append, cellsOf_append, cellsOf_one, E0.out]
          exact hown1
        case measure => simp [intOf]; omega
    · obtain rfl : k = l.length := by omega
      obtain ⟨hv, hlt3⟩ := subD_end hI (by omega) HLE.out
      have HV := Lib.hid hv
      have hrd := Rd.of_own hown
      have hol2 : o.length ≤ 4294967296 := by omega
      clear hv hI
      go_wp2_with fail
      refine (cut_any _ _ _ hrd hlt3 hol2).mono ?_
      rintro e w' ⟨v', rfl, hd, rfl⟩
      obtain ⟨a', k', cap', rfl⟩ := hd.shape
      go_wp2
      go_ret
      exact ⟨_, rfl, by rw [← HV.out]; exact hd, hB⟩

/-- added -/
theorem radded_any (v1 v2 : Value) (A B : Nat) (w : World) (h1 : Dg w v1 A) (h2 : Dg w v2 B) (hA : (dig 10 A).length ≤ 4294967295) (hB : (dig 10 B).length ≤ 4294967295) :
    Calls Tryz.prog 102 #[v1, v2] w (GivesDg w (A + B)) := by
  obtain ⟨a1, c1, rfl, g1⟩ := Rd.at h1
  obtain ⟨a2, c2, rfl, g2⟩ := Rd.at h2
  exact added_at a1 a2 c1 c2 A B 4294967295 w g1 g2 hA hB (Nat.le_refl _)

/-- taken; the second number is not greater. -/
theorem rtaken_any (v1 v2 : Value) (A B : Nat) (w : World) (h1 : Dg w v1 A) (h2 : Dg w v2 B) (hA : (dig 10 A).length ≤ 4294967295) (hle : B ≤ A) :
    Calls Tryz.prog 104 #[v1, v2] w (GivesDg w (A - B)) := by
  obtain ⟨a1, c1, rfl, g1⟩ := Rd.at h1
  obtain ⟨a2, c2, rfl, g2⟩ := Rd.at h2
  have := taken_at a1 a2 c1 c2 _ _ w g1 g2 (dig10_lt A) (dig10_lt B) (dig_length_mono (by omega) hle) (by rw [val_dig10, val_dig10]; exact hle) hA
  rwa [val_dig10, val_dig10] at this
end Go.Proofs.YtnfmcdfdbipeoaaGreatDoor

namespace Go.Proofs.YtnfmcdfdbipeoaaGreatDoor
open Go.RowKit Go.Proofs.Num

/-- Hands back a text and no error. -/
def OutT (w : World) (S : ByteArray) (e : Ending) (w' : World) : Prop := e = .returned (.tuple #[.string S, .int .i64 0]) ∧ Below w.heap.size w w'

theorem cells3 (w : World) (s1 s2 s3 : ByteArray) (k : Nat) (h : k < [s1, s2, s3].length) : (w.alloc (.cells #[.string s1, .string s2, .string s3] 31)).cell? ⟨w.heap.size, k, none⟩ = some (.string [s1, s2, s3][k]) := by
  rw [cell_of_row _ w.heap.size k _ 31 (0, 0) (heap_alloc_new w _)]
  match k, h with
  | 0, _ => rfl
  | 1, _ => rfl
  | 2, _ => rfl

end Go.Proofs.YtnfmcdfdbipeoaaGreatDoor

namespace Go.Proofs.YtnfmcdfdbipeoaaGreatDoor
open Go.RowKit Go.Proofs.Num

theorem cmpT {d : Nat} (x y : Int) (w : World) (hx : Few d x) (hy : Few d y) (h1 : 1 ≤ d) (hd : d ≤ 1024) :
    Calls Tryz.prog 52 #[.string (T x), .string (T y)] w fun e w' => e = .returned (.tuple #[.int .i64 (cmpZ x y), .int .i64 0]) ∧ Below w.heap.size w w' := by
  have h := cmp_ok (T x) (T y) (hx.size h1 hd) (hy.size h1 hd) (hx.chk h1 hd) (hy.chk h1 hd) w
  rw [T_data, T_data, parse_itoa, parse_itoa] at h
  exact h

theorem sgnT {d : Nat} (x : Int) (w : World) (hx : Few d x) (h1 : 1 ≤ d) (hd : d ≤ 1024) :
    Calls Tryz.prog 87 #[.string (T x)] w fun e w' => e = .returned (.tuple #[.int .i64 (sgn x), .int .i64 0]) ∧ Below w.heap.size w w' := by
  have h := sgn_ok (T x) (hx.size h1 hd) (hx.chk h1 hd) w
  rw [T_data, parse_itoa] at h
  exact h

theorem T_inj {x y : Int} (h : T x = T y) : x = y := by
  have := congrArg (fun s : ByteArray => parse s.data.toList) h
  simp only [T_data, parse_itoa] at this
  exact this

theorem eq_T (x y : Int) : ((T x).toList == (T y).toList) = decide (x = y) := by
  rw [Lib.toList_data, Lib.toList_data, T_data, T_data]
  by_cases h : x = y
  · subst h; simp
  · rw [decide_eq_false h, beq_eq_false_iff_ne]
    intro e; apply h
    have := congrArg parse e
    rwa [parse_itoa, parse_itoa] at this

theorem cmp_add (x y z : Int) : cmpZ (x + z) (y + z) = cmpZ x y := by
  unfold cmpZ
  have h1 : (x + z < y + z) = (x < y) := by apply propext; omega
  have h2 : (y + z < x + z) = (y < x) := by apply propext; omega
  simp only [h1, h2]

theorem cmp_ways (x y : Int) : (cmpZ x y = -1 ∧ cmpZ y x = 1 ∧ x < y) ∨ (cmpZ x y = 0 ∧ cmpZ y x = 0 ∧ x = y) ∨ (cmpZ x y = 1 ∧ cmpZ y x = -1 ∧ y < x) := by
  unfold cmpZ
  rcases Int.lt_trichotomy x y with h | h | h
  · left; rw [if_pos h, if_neg (by omega), if_pos h]; exact ⟨rfl, rfl, h⟩
  · right; left; subst h; simp
  · right; right; rw [if_neg (by omega), if_pos h, if_pos h]; exact ⟨rfl, rfl, h⟩

theorem sgn_ways (z : Int) : (sgn z = -1 ∧ z < 0) ∨ (sgn z = 0 ∧ z = 0) ∨ (sgn z = 1 ∧ 0 < z) := by
  rcases Int.lt_trichotomy z 0 with h | h | h
  · exact .inl ⟨sgn_neg h, h⟩
  · exact .inr (.inl ⟨by rw [h]; rfl, h⟩)
  · exact .inr (.inr ⟨sgn_pos h, h⟩)

theorem cmp_mul (x y z : Int) : cmpZ (x * z) (y * z) = cmpZ x y * sgn z := by
  rcases sgn_ways z with ⟨hs, h⟩ | ⟨hs, h⟩ | ⟨hs, h⟩
  · rw [hs]
    unfold cmpZ
    have h1 : (x * z < y * z) = (y < x) := propext ⟨fun hh => Int.not_le.1 fun hle => absurd hh (Int.not_lt.2 (Int.mul_le_mul_of_nonpos_right hle (by omega))), fun hh => Int.mul_lt_mul_of_neg_right hh h⟩
    have h2 : (y * z < x * z) = (x < y) := propext ⟨fun hh => Int.not_le.1 fun hle => absurd hh (Int.not_lt.2 (Int.mul_le_mul_of_nonpos_right hle (by omega))), fun hh => Int.mul_lt_mul_of_neg_right hh h⟩
    simp only [h1, h2]
    rcases Int.lt_trichotomy x y with g | g | g
    · rw [if_neg (by omega), if_pos g, if_pos g]; rfl
    · subst g; simp
    · rw [if_pos g, if_neg (by omega), if_pos g]; rfl
  · rw [hs, h]; simp [cmpZ]
  · rw [hs]
    unfold cmpZ
    have h1 : (x * z < y * z) = (x < y) := propext ⟨fun hh => Int.lt_of_mul_lt_mul_right hh (by omega), fun hh => Int.mul_lt_mul_of_pos_right hh h⟩
    have h2 : (y * z < x * z) = (y < x) := propext ⟨fun hh => Int.lt_of_mul_lt_mul_right hh (by omega), fun hh => Int.mul_lt_mul_of_pos_right hh h⟩
    simp only [h1, h2, Int.mul_one]

/-- Hands back an int and no error. -/
def OutI (w : World) (z : Int) (e : Ending) (w' : World) : Prop := e = .returned (.tuple #[.int .i64 z, .int .i64 0]) ∧ Below w.heap.size w w'

end Go.Proofs.YtnfmcdfdbipeoaaGreatDoor
