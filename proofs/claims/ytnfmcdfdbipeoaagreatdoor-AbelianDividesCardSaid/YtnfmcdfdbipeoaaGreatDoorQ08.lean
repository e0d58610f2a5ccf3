/- Walks of the words' functions: the sum. And: Walks of the words' functions: the difference, the order. And: Walks of the words' functions: the product. And: Walks of the words' functions: dividing by one word; digits. -/
import Derived.Test.YtnfmcdfdbipeoaaGreatDoorQ07
import Derived.Maps.AppendAt
namespace Go.Proofs.YtnfmcdfdbipeoaaGreatDoor
open Go.RowKit Go.Proofs.Num

theorem info102 : (Tryz.prog.info? 135).map (fun i => (i.zero, i.size, i.bytes)) = some (some (.int .u64 0), 1, 8) := by kernel_rfl

/-- A reading with its address kept open. -/
def At (q : IntKind) (w : World) (a : Option Addr) (l : List Nat) : Prop := ∀ j, j < l.length → ∃ b off, a = some ⟨b, off, none⟩ ∧ b < w.heap.size ∧ w.cell? ⟨b, off + j, none⟩ = some (.int q ((nth l j : Nat) : Int))

theorem Rd.at {q : IntKind} {T : TypeId} {w : World} {v : Value} {l : List Nat} (h : Rd q T w v l) : ∃ a cap, v = .slice a l.length cap ∧ At q w a l := by
  rcases h with ⟨rfl, a, cap, rfl⟩ | ⟨b, off, cap, rfl, h⟩
  · exact ⟨a, cap, rfl, fun j hj => by simp at hj⟩
  · exact ⟨_, cap, rfl, fun j hj => ⟨b, off, rfl, h.lt, h.cell j hj⟩⟩

theorem At.keep {q : IntKind} {w w' : World} {a : Option Addr} {l : List Nat} (h : At q w a l) (hb : Below w.heap.size w w') : At q w' a l := by
  intro j hj
  obtain ⟨b, off, e, hlt, hc⟩ := h j hj
  exact ⟨b, off, e, Nat.lt_of_lt_of_le hlt hb.size, (hb.cell (p := ⟨b, off + j, none⟩) hlt).trans hc⟩

theorem cast3 (c x y : Nat) : (((c + x + y) % 1000000000 : Nat) : Int) = ((c : Int) + x + y) % 1000000000 := by omega
theorem cast2 (c x : Nat) : (((c + x + 0) % 1000000000 : Nat) : Int) = ((c : Int) + x) % 1000000000 := by omega
theorem below_app {w wr w1 : World} {o : Obj} (hB : Below w.heap.size w wr) (hg : (wr.alloc o).grownBy w1 (some w.heap.size)) : Below w.heap.size w w1 :=
  (hB.alloc hB.size _).grown hg (Nat.le_trans hB.size (by rw [World.size_alloc]; omega)) (fun k h => by cases h; exact Nat.le_refl _)

/-- The state of the loop that adds. -/
def AddI (l m : List Nat) (k c : Nat) (o : List Nat) : Prop :=
  o.length = k ∧ c ≤ 1 ∧ (∀ x ∈ o, x < 1000000000) ∧ val 1000000000 o + c * 1000000000 ^ k = val 1000000000 (l.take k) + val 1000000000 (m.take k)

theorem addI_zero (l m : List Nat) : AddI l m 0 0 [] := ⟨rfl, by omega, by simp, by simp [val_nil]⟩

theorem addI_step {l m : List Nat} {k c : Nat} {o : List Nat} (h : AddI l m k c o) (hl : ∀ x ∈ l, x < 1000000000) (hm : ∀ x ∈ m, x < 1000000000) :
    AddI l m (k + 1) ((c + nth l k + nth m k) / 1000000000) (o ++ [(c + nth l k + nth m k) % 1000000000]) := by
  obtain ⟨h1, h2, h3, h4⟩ := h
  have hx := nth_lt (b := 1000000000) (by omega) l hl k
  have hy := nth_lt (b := 1000000000) (by omega) m hm k
  refine ⟨by simp [h1], by omega, ?_, ?_⟩
  · intro x hx'
    rcases List.mem_append.1 hx' with hx' | hx'
    · exact h3 x hx'
    · simp at hx'; omega
  · rw [val_snoc, h1, val_take_nth, val_take_nth]
    exact add_step 1000000000 k _ c _ _ _ _ _ h4 rfl

theorem addI_end {l m : List Nat} {k c : Nat} {o : List Nat} (h : AddI l m k c o) (hk : l.length ≤ k) (hm : m.length ≤ k) :
    val 1000000000 (o ++ [c]) = val 1000000000 l + val 1000000000 m ∧ (∀ x ∈ o ++ [c], x < 1000000000) := by
  obtain ⟨h1, h2, h3, h4⟩ := h
  rw [List.take_of_length_le hk, List.take_of_length_le hm] at h4
  refine ⟨by rw [val_snoc, h1, Nat.mul_comm]; exact h4, ?_⟩
  intro x hx'
  rcases List.mem_append.1 hx' with hx' | hx'
  · exact h3 x hx'
  · simp at hx'; omega

set_option maxHeartbeats 1600000 in
set_option maxRecDepth 100000 in
theorem plus_ge (a1 a2 : Option Addr) (c1 c2 : Nat) (l m : List Nat) (w : World) (h1 : At .u64 w a1 l) (h2 : At .u64 w a2 m) (hl : ∀ x ∈ l, x < 1000000000) (hm : ∀ x ∈ m, x < 1000000000)
    (hlm : m.length ≤ l.length) (hsm : l.length ≤ 4294967295) :
    Calls Tryz.prog 157 #[.slice a1 l.length c1, .slice a2 m.length c2] w (GivesWd w (val 1000000000 l + val 1000000000 m)) := by
  obtain ⟨i0, hi, hz0, hz1, hz2⟩ := info_parts info102
  have hsw : decide (l.length < m.length) = false := by simp; omega
  go_enter Tryz.func157, Tryz.ntmps157
  go_wp2_with (at_make; refine wpList_make_own _ rfl _ _ 102 rfl w.heap.size 135 i0 (.int .u64 0) 1 Tryz.underlying102 hi hz0 hz1 _ _ _ (l.length + 1) rfl rfl (by omega) ?b2 ?b3 (Nat.le_refl _) ?_)
  case b2 => rw [hz2]; omega
  case b3 => unfold maxLen; omega
  intro w0 hown0 hgrow0
  go_wp2
  go_loopw [5, 6, 22] (fun out car i wr => ∃ (k c : Nat) (o : List Nat), k ≤ l.length ∧ i = .int .i64 k ∧ car = .int .u64 c ∧ out = .slice (some ⟨w.heap.size, 0, none⟩) k (l.length + 1) ∧
      wr.ownsRow w.heap.size 135 1 (.slice (some ⟨w.heap.size, 0, none⟩) k (l.length + 1)) k (cellsOf .u64 o) ∧ AddI l m k c o ∧ Below w.heap.size w wr)
    (fun _ _ i _ => l.length - (intOf i).toNat)
  case atStart => exact ⟨0, 0, [], Nat.zero_le _, rfl, rfl, rfl, hown0, addI_zero l m, (Below.refl _ _).grown hgrow0 (Nat.le_refl _) (fun k h => by cases h)⟩
  case round =>
    obtain ⟨k, c, o, hk, rfl, rfl, rfl, hown, hI, hB⟩ := hrel
    have hc1 := hI.2.1
    by_cases hlt : k < l.length
    · obtain ⟨b1, o1, rfl, hb1, hcell1⟩ := h1 k hlt
      have hx := nth_lt (b := 1000000000) (by omega) l hl k
      have hcr : wr.cell? ⟨b1, o1 + k, none⟩ = some (.int .u64 ((nth l k : Nat) : Int)) := (hB.cell (p := ⟨b1, o1 + k, none⟩) hb1).trans hcell1
      by_cases hlt2 : k < m.length
      · obtain ⟨b2, o2, rfl, hb2, hcell2⟩ := h2 k hlt2
        have hy := nth_lt (b := 1000000000) (by omega) m hm k
        have hcr2 : wr.cell? ⟨b2, o2 + k, none⟩ = some (.int .u64 ((nth m k : Nat) : Int)) := (hB.cell (p := ⟨b2, o2 + k, none⟩) hb2).trans hcell2
        go_wp2_with (at_builtin; refine wpList_append_fits _ rfl _ _ 102 rfl w.heap.size 135 i0 1 Tryz.underlying102 hi hz1 w.heap.size k (l.length + 1) _ rfl (hown.alloc _) ⟨wr.heap.size, 0, none⟩ 1 1 [_] rfl rfl (cell_one_new _ _ _) (by simp [Value.oneCell']) (by omega) ?_; intro w1 hown1 hgrow1)
        go_roundw
        case rel => exact ⟨k + 1, _, _, by omega, by go_num, by go_num, rfl, by rw [cellsOf_append, cellsOf_one, cast3]; exact hown1, addI_step hI hl hm, below_app hB hgrow1⟩
        case measure => simp [intOf]; omega
      · have hy : nth m k = 0 := nth_past m k (by omega)
        have hI' := addI_step hI hl hm
        rw [hy] at hI'
        clear hy
        go_wp2_with (at_builtin; refine wpList_append_fits _ rfl _ _ 102 rfl w.heap.size 135 i0 1 Tryz.underlying102 hi hz1 w.heap.size k (l.length + 1) _ rfl (hown.alloc _) ⟨wr.heap.size, 0, none⟩ 1 1 [_] rfl rfl (cell_one_new _ _ _) (by simp [Value.oneCell']) (by omega) ?_; intro w1 hown1 hgrow1)
        go_roundw
        case rel => exact ⟨k + 1, _, _, by omega, by go_num, by go_num, rfl, by rw [cellsOf_append, cellsOf_one, cast2]; exact hown1, hI', below_app hB hgrow1⟩
        case measure => simp [intOf]; omega
    · obtain rfl : k = l.length := by omega
      obtain ⟨hv, hlt3⟩ := addI_end hI (Nat.le_refl _) hlm
      have hol := hI.1
      have HV := Lib.hid hv
      have HO := Lib.hid hol
      have hol2 : (o ++ [c]).length ≤ 4294967296 := by simp; omega
      clear hv hol
      go_wp2_with (at_builtin; refine wpList_append_fits _ rfl _ _ 102 rfl w.heap.size 135 i0 1 Tryz.underlying102 hi hz1 w.heap.size l.length (l.length + 1) _ rfl (hown.alloc _) ⟨wr.heap.size, 0, none⟩ 1 1 [_] rfl rfl (cell_one_new _ _ _) (by simp [Value.oneCell']) (by omega) ?_; intro w1 hown1 hgrow1)
      have hlen : (o ++ [c]).length = l.length + 1 := by rw [List.length_append, HO.out]; rfl
      have hrd : Rd .u64 135 w1 (.slice (some ⟨w.heap.size, 0, none⟩) (l.length + 1) (l.length + 1)) (o ++ [c]) := by
        refine Rd.of_own (base := w.heap.size) (T := 135) ?_
        rw [hlen, cellsOf_append, cellsOf_one]; exact hown1
      have hB1 : Below w.heap.size w w1 := below_app hB hgrow1
      refine (trim_any _ (o ++ [c]) _ hrd hlt3 hol2).mono ?_
      rintro e w' ⟨v', rfl, hw, rfl⟩
      obtain ⟨a', cap', rfl⟩ := Rd.shape hw
      go_wp2
      go_ret
      exact ⟨_, rfl, ⟨a', _, cap', rfl⟩, by rw [← HV.out]; exact hw, hB1⟩
set_option maxHeartbeats 1600000 in
set_option maxRecDepth 100000 in
theorem plus_lt (a1 a2 : Option Addr) (c1 c2 : Nat) (l m : List Nat) (w : World) (h1 : At .u64 w a1 l) (h2 : At .u64 w a2 m) (hl : ∀ x ∈ l, x < 1000000000) (hm : ∀ x ∈ m, x < 1000000000)
    (hlm : m.length < l.length) (hsm : l.length ≤ 4294967295) :
    Calls Tryz.prog 157 #[.slice a2 m.length c2, .slice a1 l.length c1] w (GivesWd w (val 1000000000 l + val 1000000000 m)) := by
  obtain ⟨i0, hi, hz0, hz1, hz2⟩ := info_parts info102
  have hsw : decide (m.length < l.length) = true := by simp; omega
  go_enter Tryz.func157, Tryz.ntmps157
  go_wp2_with (at_make; refine wpList_make_own _ rfl _ _ 102 rfl w.heap.size 135 i0 (.int .u64 0) 1 Tryz.underlying102 hi hz0 hz1 _ _ _ (l.length + 1) rfl rfl (by omega) ?b2 ?b3 (Nat.le_refl _) ?_)
  case b2 => rw [hz2]; omega
  case b3 => unfold maxLen; omega
  intro w0 hown0 hgrow0
  go_wp2
  go_loopw [5, 6, 22] (fun out car i wr => ∃ (k c : Nat) (o : List Nat), k ≤ l.length ∧ i = .int .i64 k ∧ car = .int .u64 c ∧ out = .slice (some ⟨w.heap.size, 0, none⟩) k (l.length + 1) ∧
      wr.ownsRow w.heap.size 135 1 (.slice (some ⟨w.heap.size, 0, none⟩) k (l.length + 1)) k (cellsOf .u64 o) ∧ AddI l m k c o ∧ Below w.heap.size w wr)
    (fun _ _ i _ => l.length - (intOf i).toNat)
  case atStart => exact ⟨0, 0, [], Nat.zero_le _, rfl, rfl, rfl, hown0, addI_zero l m, (Below.refl _ _).grown hgrow0 (Nat.le_refl _) (fun k h => by cases h)⟩
  case round =>
    obtain ⟨k, c, o, hk, rfl, rfl, rfl, hown, hI, hB⟩ := hrel
    have hc1 := hI.2.1
    by_cases hlt : k < l.length
    · obtain ⟨b1, o1, rfl, hb1, hcell1⟩ := h1 k hlt
      have hx := nth_lt (b := 1000000000) (by omega) l hl k
      have hcr : wr.cell? ⟨b1, o1 + k, none⟩ = some (.int .u64 ((nth l k : Nat) : Int)) := (hB.cell (p := ⟨b1, o1 + k, none⟩) hb1).trans hcell1
      by_cases hlt2 : k < m.length
      · obtain ⟨b2, o2, rfl, hb2, hcell2⟩ := h2 k hlt2
        have hy := nth_lt (b := 1000000000) (by omega) m hm k
        have hcr2 : wr.cell? ⟨b2, o2 + k, none⟩ = some (.int .u64 ((nth m k : Nat) : Int)) := (hB.cell (p := ⟨b2, o2 + k, none⟩) hb2).trans hcell2
        go_wp2_with (at_builtin; refine wpList_append_fits _ rfl _ _ 102 rfl w.heap.size 135 i0 1 Tryz.underlying102 hi hz1 w.heap.size k (l.length + 1) _ rfl (hown.alloc _) ⟨wr.heap.size, 0, none⟩ 1 1 [_] rfl rfl (cell_one_new _ _ _) (by simp [Value.oneCell']) (by omega) ?_; intro w1 hown1 hgrow1)
        go_roundw
        case rel => exact ⟨k + 1, _, _, by omega, by go_num, by go_num, rfl, by rw [cellsOf_append, cellsOf_one, cast3]; exact hown1, addI_step hI hl hm, below_app hB hgrow1⟩
        case measure => simp [intOf]; omega
      · have hy : nth m k = 0 := nth_past m k (by omega)
        have hI' := addI_step hI hl hm
        rw [hy] at hI'
        clear hy
        go_wp2_with (at_builtin; refine wpList_append_fits _ rfl _ _ 102 rfl w.heap.size 135 i0 1 Tryz.underlying102 hi hz1 w.heap.size k (l.length + 1) _ rfl (hown.alloc _) ⟨wr.heap.size, 0, none⟩ 1 1 [_] rfl rfl (cell_one_new _ _ _) (by simp [Value.oneCell']) (by omega) ?_; intro w1 hown1 hgrow1)
        go_roundw
        case rel => exact ⟨k + 1, _, _, by omega, by go_num, by go_num, rfl, by rw [cellsOf_append, cellsOf_one, cast2]; exact hown1, hI', below_app hB hgrow1⟩
        case measure => simp [intOf]; omega
    · obtain rfl : k = l.length := by omega
      obtain ⟨hv, hlt3⟩ := addI_end hI (Nat.le_refl _) (by omega)
      have hol := hI.1
      have HV := Lib.hid hv
      have HO := Lib.hid hol
      have hol2 : (o ++ [c]).length ≤ 4294967296 := by simp; omega
      clear hv hol
      go_wp2_with (at_builtin; refine wpList_append_fits _ rfl _ _ 102 rfl w.heap.size 135 i0 1 Tryz.underlying102 hi hz1 w.heap.size l.length (l.length + 1) _ rfl (hown.alloc _) ⟨wr.heap.size, 0, none⟩ 1 1 [_] rfl rfl (cell_one_new _ _ _) (by simp [Value.oneCell']) (by omega) ?_; intro w1 hown1 hgrow1)
      have hlen : (o ++ [c]).length = l.length + 1 := by rw [List.length_append, HO.out]; rfl
      have hrd : Rd .u64 135 w1 (.slice (some ⟨w.heap.size, 0, none⟩) (l.length + 1) (l.length + 1)) (o ++ [c]) := by
        refine Rd.of_own (base := w.heap.size) (T := 135) ?_
        rw [hlen, cellsOf_append, cellsOf_one]; exact hown1
      have hB1 : Below w.heap.size w w1 := below_app hB hgrow1
      refine (trim_any _ (o ++ [c]) _ hrd hlt3 hol2).mono ?_
      rintro e w' ⟨v', rfl, hw, rfl⟩
      obtain ⟨a', cap', rfl⟩ := Rd.shape hw
      go_wp2
      go_ret
      exact ⟨_, rfl, ⟨a', _, cap', rfl⟩, by rw [← HV.out]; exact hw, hB1⟩

theorem dig9_lt (n : Nat) : ∀ x ∈ dig 1000000000 n, x < 1000000000 := dig_lt (by omega) n
theorem val_dig9 (n : Nat) : val 1000000000 (dig 1000000000 n) = n := val_dig (by omega) n

/-- words.plus -/
theorem wplus_any (v1 v2 : Value) (m n : Nat) (w : World) (h1 : Wd w v1 m) (h2 : Wd w v2 n) (hm : (dig 1000000000 m).length ≤ 4294967295) (hn : (dig 1000000000 n).length ≤ 4294967295) :
    Calls Tryz.prog 157 #[v1, v2] w (GivesWd w (m + n)) := by
  obtain ⟨a1, c1, rfl, g1⟩ := Rd.at h1
  obtain ⟨a2, c2, rfl, g2⟩ := Rd.at h2
  rcases Nat.lt_or_ge (dig 1000000000 m).length (dig 1000000000 n).length with h | h
  · have := plus_lt a2 a1 c2 c1 _ _ w g2 g1 (dig9_lt n) (dig9_lt m) h hn
    rwa [val_dig9, val_dig9, Nat.add_comm] at this
  · have := plus_ge a1 a2 c1 c2 _ _ w g1 g2 (dig9_lt m) (dig9_lt n) h hm
    rwa [val_dig9, val_dig9] at this
end Go.Proofs.YtnfmcdfdbipeoaaGreatDoor

namespace Go.Proofs.YtnfmcdfdbipeoaaGreatDoor
open Go.RowKit Go.Proofs.Num

/-- The state of the loop that subtracts. -/
def SubI (l m : List Nat) (k r : Nat) (o : List Nat) : Prop :=
  o.length = k ∧ r ≤ 1 ∧ (∀ x ∈ o, x < 1000000000) ∧ val 1000000000 o + val 1000000000 (m.take k) = val 1000000000 (l.take k) + r * 1000000000 ^ k

theorem subI_zero (l m : List Nat) : SubI l m 0 0 [] := ⟨rfl, by omega, by simp, by simp [val_nil]⟩

theorem subI_step {l m : List Nat} {k r : Nat} {o : List Nat} (h : SubI l m k r o) (hl : ∀ x ∈ l, x < 1000000000) (hm : ∀ x ∈ m, x < 1000000000) :
    SubI l m (k + 1) (1 - (nth l k + (1000000000 - r) - nth m k) / 1000000000) (o ++ [(nth l k + (1000000000 - r) - nth m k) % 1000000000]) := by
  obtain ⟨h1, h2, h3, h4⟩ := h
  have hx := nth_lt (b := 1000000000) (by omega) l hl k
  have hy := nth_lt (b := 1000000000) (by omega) m hm k
  refine ⟨by simp [h1], by omega, ?_, ?_⟩
  · intro x hx'
    rcases List.mem_append.1 hx' with hx' | hx'
    · exact h3 x hx'
    · simp at hx'; omega
  · rw [val_snoc, h1, val_take_nth, val_take_nth]
    exact sub_step 1000000000 k _ r _ _ _ _ _ h4 (by omega) (by omega)

theorem subI_end {l m : List Nat} {r : Nat} {o : List Nat} (h : SubI l m l.length r o) (hm : m.length ≤ l.length) (hle : val 1000000000 m ≤ val 1000000000 l) :
    val 1000000000 o = val 1000000000 l - val 1000000000 m ∧ (∀ x ∈ o, x < 1000000000) := by
  obtain ⟨h1, h2, h3, h4⟩ := h
  rw [List.take_of_length_le (Nat.le_refl _), List.take_of_length_le hm] at h4
  refine ⟨?_, h3⟩
  have h5 := val_lt (b := 1000000000) (by omega) o h3
  rw [h1] at h5
  rcases (show r = 0 ∨ r = 1 by omega) with rfl | rfl <;> omega

theorem cast4 (r x y : Nat) (hr : r ≤ 1) (hy : y < 1000000000) : (((x + (1000000000 - r) - y) % 1000000000 : Nat) : Int) = ((x : Int) + (1000000000 - r) - y) % 1000000000 := by omega
theorem cast5 (r x : Nat) (hr : r ≤ 1) : (((x + (1000000000 - r) - 0) % 1000000000 : Nat) : Int) = ((x : Int) + (1000000000 - r)) % 1000000000 := by omega

set_option maxHeartbeats 1600000 in
set_option maxRecDepth 100000 in
theorem minus_ge (a1 a2 : Option Addr) (c1 c2 : Nat) (l m : List Nat) (w : World) (h1 : At .u64 w a1 l) (h2 : At .u64 w a2 m) (hl : ∀ x ∈ l, x < 1000000000) (hm : ∀ x ∈ m, x < 1000000000)
    (hlm : m.length ≤ l.length) (hle : val 1000000000 m ≤ val 1000000000 l) (hsm : l.length ≤ 4294967295) :
    Calls Tryz.prog 158 #[.slice a1 l.length c1, .slice a2 m.length c2] w (GivesWd w (val 1000000000 l - val 1000000000 m)) := by
  obtain ⟨i0, hi, hz0, hz1, hz2⟩ := info_parts info102
  have HLE := Lib.hid hle
  clear hle
  go_enter Tryz.func158, Tryz.ntmps158
  go_wp2_with (at_make; refine wpList_make_own _ rfl _ _ 102 rfl w.heap.size 135 i0 (.int .u64 0) 1 Tryz.underlying102 hi hz0 hz1 _ _ _ l.length rfl rfl (by omega) ?b2 ?b3 (Nat.le_refl _) ?_)
  case b2 => rw [hz2]; omega
  case b3 => unfold maxLen; omega
  intro w0 hown0 hgrow0
  go_wp2
  go_loopw [5, 6, 14] (fun out car i wr => ∃ (k r : Nat) (o : List Nat), k ≤ l.length ∧ i = .int .i64 k ∧ car = .int .u64 r ∧ out = .slice (some ⟨w.heap.size, 0, none⟩) k l.length ∧
      wr.ownsRow w.heap.size 135 1 (.slice (some ⟨w.heap.size, 0, none⟩) k l.length) k (cellsOf .u64 o) ∧ SubI l m k r o ∧ Below w.heap.size w wr)
    (fun _ _ i _ => l.length - (intOf i).toNat)
  case atStart => exact ⟨0, 0, [], Nat.zero_le _, rfl, rfl, rfl, hown0, subI_zero l m, (Below.refl _ _).grown hgrow0 (Nat.le_refl _) (fun k h => by cases h)⟩
  case round =>
    obtain ⟨k, r, o, hk, rfl, rfl, rfl, hown, hI, hB⟩ := hrel
    have hc1 := hI.2.1
    by_cases hlt : k < l.length
    · obtain ⟨b1, o1, rfl, hb1, hcell1⟩ := h1 k hlt
      have hx := nth_lt (b := 1000000000) (by omega) l hl k
      have hcr : wr.cell? ⟨b1, o1 + k, none⟩ = some (.int .u64 ((nth l k : Nat) : Int)) := (hB.cell (p := ⟨b1, o1 + k, none⟩) hb1).trans hcell1
      by_cases hlt2 : k < m.length
      · obtain ⟨b2, o2, rfl, hb2, hcell2⟩ := h2 k hlt2
        have hy := nth_lt (b := 1000000000) (by omega) m hm k
        have hcr2 : wr.cell? ⟨b2, o2 + k, none⟩ = some (.int .u64 ((nth m k : Nat) : Int)) := (hB.cell (p := ⟨b2, o2 + k, none⟩) hb2).trans hcell2
        go_wp2_with (at_builtin; refine wpList_append_fits _ rfl _ _ 102 rfl w.heap.size 135 i0 1 Tryz.underlying102 hi hz1 w.heap.size k l.length _ rfl (hown.alloc _) ⟨wr.heap.size, 0, none⟩ 1 1 [_] rfl rfl (cell_one_new _ _ _) (by simp [Value.oneCell']) (by omega) ?_; intro w1 hown1 hgrow1)
        go_roundw
        case rel => exact ⟨k + 1, _, _, by omega, by go_num, by go_num, rfl, by rw [cellsOf_append, cellsOf_one, cast4 r _ _ hc1 hy]; exact hown1, subI_step hI hl hm, below_app hB hgrow1⟩
        case measure => simp [intOf]; omega
      · have hy : nth m k = 0 := nth_past m k (by omega)
        have hI' := subI_step hI hl hm
        rw [hy] at hI'
        clear hy
        go_wp2_with (at_builtin; refine wpList_append_fits _ rfl _ _ 102 rfl w.heap.size 135 i0 1 Tryz.underlying102 hi hz1 w.heap.size k l.length _ rfl (hown.alloc _) ⟨wr.heap.size, 0, none⟩ 1 1 [_] rfl rfl (cell_one_new _ _ _) (by simp [Value.oneCell']) (by omega) ?_; intro w1 hown1 hgrow1)
        go_roundw
        case rel => exact ⟨k + 1, _, _, by omega, by go_num, by go_num, rfl, by rw [cellsOf_append, cellsOf_one, cast5 r _ hc1]; exact hown1, hI', below_app hB hgrow1⟩
        case measure => simp [intOf]; omega
    · obtain rfl : k = l.length := by omega
      obtain ⟨hv, hlt3⟩ := subI_end hI hlm HLE.out
      have hol := hI.1
      have HV := Lib.hid hv
      have hrd : Rd .u64 135 wr (.slice (some ⟨w.heap.size, 0, none⟩) l.length l.length) o := by
        rw [← hol]
        refine Rd.of_own (base := w.heap.size) (T := 135) ?_
        rw [hol]; exact hown
      have hol2 : o.length ≤ 4294967296 := by omega
      clear hv hol
      go_wp2_with fail
      refine (trim_any _ o _ hrd hlt3 hol2).mono ?_
      rintro e w' ⟨v', rfl, hw, rfl⟩
      obtain ⟨a', cap', rfl⟩ := Rd.shape hw
      go_wp2
      go_ret
      exact ⟨_, rfl, ⟨a', _, cap', rfl⟩, by rw [← HV.out]; exact hw, hB⟩

/-- words.minus; the second number is not greater. -/
theorem wminus_any (v1 v2 : Value) (m n : Nat) (w : World) (h1 : Wd w v1 m) (h2 : Wd w v2 n) (hm : (dig 1000000000 m).length ≤ 4294967295) (hle : n ≤ m) :
    Calls Tryz.prog 158 #[v1, v2] w (GivesWd w (m - n)) := by
  obtain ⟨a1, c1, rfl, g1⟩ := Rd.at h1
  obtain ⟨a2, c2, rfl, g2⟩ := Rd.at h2
  have := minus_ge a1 a2 c1 c2 _ _ w g1 g2 (dig9_lt m) (dig9_lt n) (dig_length_mono (by omega) hle) (by rw [val_dig9, val_dig9]; exact hle) hm
  rwa [val_dig9, val_dig9] at this

/-- The order of two numbers. -/
def cmpN (m n : Nat) : Int := if m < n then -1 else if n < m then 1 else 0

set_option maxHeartbeats 1600000 in
set_option maxRecDepth 100000 in
theorem compare_eq (a1 a2 : Option Addr) (c1 c2 : Nat) (l m : List Nat) (w : World) (h1 : At .u64 w a1 l) (h2 : At .u64 w a2 m) (hl : ∀ x ∈ l, x < 1000000000) (hm : ∀ x ∈ m, x < 1000000000)
    (hlm : l.length = m.length) (hsm : l.length ≤ 4294967295) :
    Calls Tryz.prog 137 #[.slice a1 l.length c1, .slice a2 m.length c2] w fun e w' => e = .returned (.int .i64 (cmpN (val 1000000000 l) (val 1000000000 m))) ∧ ∃ n, w' = w.drewN n := by
  have hne : ((l.length : Int) != (m.length : Int)) = false := by simp; omega
  have HLM := Lib.hid hlm
  rw [show m.length = l.length from hlm.symm] at hne ⊢
  clear hlm
  go_enter Tryz.func137, Tryz.ntmps137
  go_wp2
  go_loopw [5] (fun i wr => ∃ (j : Int), -1 ≤ j ∧ j < l.length ∧ i = .int .i64 j ∧ l.drop (j + 1).toNat = m.drop (j + 1).toNat ∧ ∃ n, wr = w.drewN n) (fun i _ => (intOf i + 1).toNat)
  case atStart => exact ⟨(l.length : Int) - 1, by omega, by omega, rfl, by rw [List.drop_of_length_le (by omega), List.drop_of_length_le (by have := HLM.out; omega)], 0, rfl⟩
  case round =>
    obtain ⟨j, hj1, hj2, rfl, hd, nd, rfl⟩ := hrel
    by_cases h0 : 0 ≤ j
    · obtain ⟨k, rfl⟩ := Int.eq_ofNat_of_zero_le h0
      obtain ⟨b1, o1, rfl, hb1, hcell1⟩ := h1 k (by omega)
      obtain ⟨b2, o2, rfl, hb2, hcell2⟩ := h2 k (by have := HLM.out; omega)
      have HD := Lib.hid hd
      clear hd
      have hml := HLM.out
      have hkl : k < l.length := by omega
      rcases (show nth l k < nth m k ∨ nth m k < nth l k ∨ nth l k = nth m k by omega) with h | h | h
      · have hv : cmpN (val 1000000000 l) (val 1000000000 m) = -1 := by
          have := val_lt_of_top (b := 1000000000) (by omega) l m k hkl HLM.out hl HD.out h
          unfold cmpN; rw [if_pos this]
        have HV := Lib.hid hv
        clear hv hml
        have hlt : ((nth l k : Nat) : Int) < ((nth m k : Nat) : Int) := by omega
        clear h
        go_wp2
        go_quiet (fail)
        go_wp2
        go_ret
        exact ⟨by rw [HV.out]; rfl, _, World.drewN_drewN _ _ _⟩
      · have hv : cmpN (val 1000000000 l) (val 1000000000 m) = 1 := by
          have := val_lt_of_top (b := 1000000000) (by omega) m l k (by omega) HLM.out.symm hm HD.out.symm h
          unfold cmpN; rw [if_neg (by omega), if_pos this]
        have HV := Lib.hid hv
        clear hv hml
        have hlt : ((nth m k : Nat) : Int) < ((nth l k : Nat) : Int) := by omega
        have hge : ¬ ((nth l k : Nat) : Int) < ((nth m k : Nat) : Int) := by omega
        clear h
        go_wp2
        go_quiet (fail)
        go_wp2
        go_quiet (fail)
        go_wp2
        go_ret
        exact ⟨by rw [HV.out]; rfl, _, (World.drewN_drewN _ _ _).trans (World.drewN_drewN _ _ _)⟩
      · have hge : ¬ ((nth l k : Nat) : Int) < ((nth m k : Nat) : Int) := by omega
        have hge2 : ¬ ((nth m k : Nat) : Int) < ((nth l k : Nat) : Int) := by omega
        have hd' : l.drop k = m.drop k := by
          rw [List.drop_eq_getElem_cons hkl, List.drop_eq_getElem_cons (show k < m.length by omega)]
          unfold nth at h
          rw [getD_get l k hkl, getD_get m k (by omega)] at h
          rw [h]
          have := HD.out
          rw [show ((k : Int) + 1).toNat = k + 1 by omega] at this
          rw [this]
        have HD' := Lib.hid hd'
        clear h hml hd'
        go_wp2
        go_quiet (fail)
        go_wp2
        go_quiet (fail)
        go_wp2
        go_roundw
        case rel => exact ⟨(k : Int) - 1, by omega, by omega, rfl, by rw [show ((k : Int) - 1 + 1).toNat = k by omega]; exact HD'.out, _, rfl⟩
        case measure => simp [intOf]
    · obtain rfl : j = -1 := by omega
      have hv : cmpN (val 1000000000 l) (val 1000000000 m) = 0 := by
        have : l = m := hd
        unfold cmpN; rw [this, if_neg (by omega), if_neg (by omega)]
      have HV := Lib.hid hv
      clear hv hd
      go_wp2
      go_ret
      exact ⟨by rw [HV.out]; rfl, _, rfl⟩

theorem compare_ne (a1 a2 : Option Addr) (c1 c2 : Nat) (k n : Nat) (w : World) (hne : k ≠ n) (hk : k ≤ 4294967295) (hn : n ≤ 4294967295) :
    Calls Tryz.prog 137 #[.slice a1 k c1, .slice a2 n c2] w fun e w' => e = .returned (.int .i64 (cmpN k n)) ∧ w = w' := by
  have hne : ((k : Int) != (n : Int)) = true := by simp; omega
  go_enter Tryz.func137, Tryz.ntmps137
  go_wp2_with (go_at_call 136; refine (sign_any _ _).mono ?_; rintro e w' ⟨rfl, rfl⟩)
  go_ret
  refine ⟨?_, rfl⟩
  have : sgn ((k : Int) - n) = cmpN k n := by
    unfold sgn cmpN
    rcases (show k < n ∨ n < k by simp at hne; omega) with h | h
    · rw [if_pos (by omega), if_pos (by omega)]
    · rw [if_neg (by omega), if_pos (by omega), if_neg (by omega), if_pos (by omega)]
  rw [← this]; rfl

/-- words.compare -/
theorem wcompare_any (v1 v2 : Value) (m n : Nat) (w : World) (h1 : Wd w v1 m) (h2 : Wd w v2 n) (hm : (dig 1000000000 m).length ≤ 4294967295) (hn : (dig 1000000000 n).length ≤ 4294967295) :
    Calls Tryz.prog 137 #[v1, v2] w fun e w' => e = .returned (.int .i64 (cmpN m n)) ∧ ∃ k, w' = w.drewN k := by
  obtain ⟨a1, c1, rfl, g1⟩ := Rd.at h1
  obtain ⟨a2, c2, rfl, g2⟩ := Rd.at h2
  by_cases h : (dig 1000000000 m).length = (dig 1000000000 n).length
  · have := compare_eq a1 a2 c1 c2 _ _ w g1 g2 (dig9_lt m) (dig9_lt n) h hm
    rwa [val_dig9, val_dig9] at this
  · refine (compare_ne a1 a2 c1 c2 _ _ w h hm hn).mono ?_
    rintro e w' ⟨rfl, rfl⟩
    refine ⟨?_, 0, rfl⟩
    congr 2
    unfold cmpN
    rcases Nat.lt_or_gt_of_ne h with h | h
    · rw [if_pos h, if_pos (val_lt_of_length (by omega) m n h)]
    · rw [if_neg (by omega), if_pos h]
      have := val_lt_of_length (b := 1000000000) (by omega) n m h
      rw [if_neg (by omega), if_pos this]
end Go.Proofs.YtnfmcdfdbipeoaaGreatDoor

namespace Go.Proofs.YtnfmcdfdbipeoaaGreatDoor
open Go.RowKit Go.Proofs.Num

theorem nth_set_same (o : List Nat) (p v : Nat) (hp : p < o.length) : nth (o.set p v) p = v := by simp [nth, List.getD, hp]
theorem nth_set_other (o : List Nat) (p v t : Nat) (ht : t ≠ p) : nth (o.set p v) t = nth o t := by simp [nth, List.getD, Ne.symm ht]

theorem val_set (b : Nat) : ∀ (o : List Nat) (p v : Nat), p < o.length → val b (o.set p v) + b ^ p * nth o p = val b o + b ^ p * v
  | [], p, v, h => by simp at h
  | x :: xs, 0, v, _ => by simp [val_cons, nth]; omega
  | x :: xs, p + 1, v, h => by
    have ih := val_set b xs p v (by simpa using h)
    rw [List.set_cons_succ, val_cons, val_cons, show nth (x :: xs) (p + 1) = nth xs p from by simp [nth, List.getD], Nat.pow_succ, Nat.mul_comm (b ^ p) b, Nat.mul_assoc, Nat.mul_assoc]
    have : b * (val b (xs.set p v) + b ^ p * nth xs p) = b * (val b xs + b ^ p * v) := by rw [ih]
    rw [Nat.mul_add, Nat.mul_add] at this
    omega

theorem mem_set_lt {o : List Nat} {p v b : Nat} (h : ∀ x ∈ o, x < b) (hv : v < b) : ∀ x ∈ o.set p v, x < b := by
  intro x hx
  rcases List.mem_or_eq_of_mem_set hx with hx | rfl
  · exact h x hx
  · exact hv

def MulI (l m : List Nat) (i : Nat) (o : List Nat) : Prop :=
  o.length = l.length + m.length ∧ (∀ x ∈ o, x < 1000000000) ∧ val 1000000000 o = val 1000000000 (l.take i) * val 1000000000 m ∧ ∀ t, i + m.length ≤ t → nth o t = 0

def MulJ (l m : List Nat) (i j c : Nat) (o : List Nat) : Prop :=
  o.length = l.length + m.length ∧ (∀ x ∈ o, x < 1000000000) ∧ c < 1000000000 ∧
  val 1000000000 o + c * 1000000000 ^ (i + j) = val 1000000000 (l.take i) * val 1000000000 m + nth l i * 1000000000 ^ i * val 1000000000 (m.take j) ∧ ∀ t, i + m.length ≤ t → nth o t = 0

theorem val_replicate_zero (b : Nat) : ∀ n, val b (List.replicate n 0) = 0
  | 0 => rfl
  | n + 1 => by rw [List.replicate_succ, val_cons, val_replicate_zero b n]; simp

theorem nth_replicate (n t : Nat) : nth (List.replicate n 0) t = 0 := by
  simp only [nth, List.getD, List.getElem?_replicate]; split <;> rfl

theorem mulI_zero (l m : List Nat) : MulI l m 0 (List.replicate (l.length + m.length) 0) :=
  ⟨by simp, fun x hx => by have := List.eq_of_mem_replicate hx; omega, by rw [val_replicate_zero]; simp [val_nil], fun t _ => nth_replicate _ t⟩

theorem mulJ_zero {l m : List Nat} {i : Nat} {o : List Nat} (h : MulI l m i o) : MulJ l m i 0 0 o :=
  ⟨h.1, h.2.1, by omega, by rw [h.2.2.1]; simp [val_nil], h.2.2.2⟩

theorem mul_bound (x y : Nat) (hx : x < 1000000000) (hy : y < 1000000000) : x * y ≤ 999999998000000001 :=
  Nat.mul_le_mul (show x ≤ 999999999 by omega) (show y ≤ 999999999 by omega)

theorem mulJ_step {l m : List Nat} {i j c : Nat} {o : List Nat} (h : MulJ l m i j c o) (hl : ∀ x ∈ l, x < 1000000000) (hm : ∀ x ∈ m, x < 1000000000) (hi : i < l.length) (hj : j < m.length) :
    MulJ l m i (j + 1) ((c + (nth o (i + j) + nth l i * nth m j)) / 1000000000) (o.set (i + j) ((c + (nth o (i + j) + nth l i * nth m j)) % 1000000000)) := by
  obtain ⟨h1, h2, h3, h4, h5⟩ := h
  have hx := nth_lt (b := 1000000000) (by omega) l hl i
  have hy := nth_lt (b := 1000000000) (by omega) m hm j
  have hz := nth_lt (b := 1000000000) (by omega) o h2 (i + j)
  have hb := mul_bound _ _ hx hy
  refine ⟨by simp [h1], mem_set_lt h2 (Nat.mod_lt _ (by omega)), by omega, ?_, ?_⟩
  · have h6 := val_set 1000000000 o (i + j) ((c + (nth o (i + j) + nth l i * nth m j)) % 1000000000) (by omega)
    have h7 := Nat.mod_add_div (c + (nth o (i + j) + nth l i * nth m j)) 1000000000
    generalize hs : (c + (nth o (i + j) + nth l i * nth m j)) = s at *
    have h8 : 1000000000 ^ (i + j) * (s % 1000000000) + s / 1000000000 * 1000000000 ^ (i + (j + 1)) = 1000000000 ^ (i + j) * s := by
      rw [← Nat.add_assoc, Nat.pow_succ, Nat.mul_comm (s / 1000000000), Nat.mul_assoc, ← Nat.mul_add, h7]
    have h9 : 1000000000 ^ (i + j) * s = c * 1000000000 ^ (i + j) + 1000000000 ^ (i + j) * nth o (i + j) + nth l i * 1000000000 ^ i * (1000000000 ^ j * nth m j) := by
      rw [← hs, Nat.mul_add, Nat.mul_add, Nat.mul_comm _ c, Nat.pow_add]
      have : 1000000000 ^ i * 1000000000 ^ j * (nth l i * nth m j) = nth l i * 1000000000 ^ i * (1000000000 ^ j * nth m j) := by
        simp only [Nat.mul_assoc, Nat.mul_comm, Nat.mul_left_comm]
      omega
    rw [val_take_nth, Nat.mul_add]
    omega
  · intro t ht
    rw [nth_set_other _ _ _ _ (by omega)]
    exact h5 t ht

theorem mulJ_end {l m : List Nat} {i c : Nat} {o : List Nat} (h : MulJ l m i m.length c o) (hi : i < l.length) : MulI l m (i + 1) (o.set (i + m.length) c) := by
  obtain ⟨h1, h2, h3, h4, h5⟩ := h
  refine ⟨by simp [h1], mem_set_lt h2 h3, ?_, ?_⟩
  · have h6 := val_set 1000000000 o (i + m.length) c (by omega)
    rw [h5 _ (Nat.le_refl _)] at h6
    rw [List.take_of_length_le (Nat.le_refl _)] at h4
    rw [val_take_nth, Nat.add_mul, Nat.mul_comm (1000000000 ^ i)]
    have : c * 1000000000 ^ (i + m.length) = 1000000000 ^ (i + m.length) * c := Nat.mul_comm _ _
    omega
  · intro t ht
    rw [nth_set_other _ _ _ _ (by omega)]
    exact h5 t (by omega)

theorem mulI_end {l m : List Nat} {o : List Nat} (h : MulI l m l.length o) : val 1000000000 o = val 1000000000 l * val 1000000000 m := by
  rw [h.2.2.1, List.take_of_length_le (Nat.le_refl _)]

theorem cellsOf_set (q : IntKind) (o : List Nat) (p v : Nat) : cellsOf q (o.set p v) = (cellsOf q o).set p (.int q ((v : Nat) : Int)) := by
  simp [cellsOf, List.map_set]

theorem cellsOf_replicate (q : IntKind) (n : Nat) : cellsOf q (List.replicate n 0) = List.replicate n (.int q 0) := by simp [cellsOf]

theorem cast6 (c z x y : Nat) : (((c + (z + x * y)) % 1000000000 : Nat) : Int) = ((c : Int) + ((z : Int) + (x : Int) * (y : Int))) % 1000000000 := by
  rw [← Int.natCast_mul]; omega
theorem cast7 (c z x y : Nat) : (((c + (z + x * y)) / 1000000000 : Nat) : Int) = ((c : Int) + ((z : Int) + (x : Int) * (y : Int))) / 1000000000 := by
  rw [← Int.natCast_mul]; omega

theorem below_own {w wr w1 : World} (hB : Below w.heap.size w wr) (hg : wr.grownBy w1 (some w.heap.size)) : Below w.heap.size w w1 :=
  hB.grown hg hB.size (fun k h => by cases h; exact Nat.le_refl _)

set_option maxHeartbeats 3200000 in
set_option maxRecDepth 100000 in
theorem times_at (a1 a2 : Option Addr) (c1 c2 : Nat) (l m : List Nat) (w : World) (h1 : At .u64 w a1 l) (h2 : At .u64 w a2 m) (hl : ∀ x ∈ l, x < 1000000000) (hm : ∀ x ∈ m, x < 1000000000)
    (hsl : l.length ≤ 2147483647) (hsm : m.length ≤ 2147483647) :
    Calls Tryz.prog 135 #[.slice a1 l.length c1, .slice a2 m.length c2] w (GivesWd w (val 1000000000 l * val 1000000000 m)) := by
  obtain ⟨i0, hi, hz0, hz1, hz2⟩ := info_parts info102
  go_enter Tryz.func135, Tryz.ntmps135
  go_wp2_with (at_make; refine wpList_make_full _ rfl _ _ 102 rfl w.heap.size 135 i0 (.int .u64 0) 1 Tryz.underlying102 hi hz0 hz1 _ _ _ _ (l.length + m.length) rfl rfl (by omega) (by omega) ?b2 ?b3 (Nat.le_refl _) ?_)
  case b2 => rw [hz2]; omega
  case b3 => unfold maxLen; omega
  intro w0 hown0 hgrow0
  rw [toList_madeCells_one, ← cellsOf_replicate] at hown0
  go_wp2
  go_loopw [19] (fun si wr => ∃ (i : Nat) (o : List Nat), i ≤ l.length ∧ si = .int .i64 i ∧
      wr.ownsRow w.heap.size 135 1 (.slice (some ⟨w.heap.size, 0, none⟩) (l.length + m.length) (l.length + m.length)) (l.length + m.length) (cellsOf .u64 o) ∧ MulI l m i o ∧ Below w.heap.size w wr)
    (fun i _ => l.length - (intOf i).toNat)
  case atStart => exact ⟨0, _, Nat.zero_le _, rfl, hown0, mulI_zero l m, (Below.refl _ _).grown hgrow0 (Nat.le_refl _) (fun k h => by cases h)⟩
  case round =>
    obtain ⟨i, o, hil, rfl, hown, hI, hB⟩ := hrel
    by_cases hlt : i < l.length
    · obtain ⟨b1, o1, rfl, hb1, hcell1⟩ := h1 i hlt
      have hx := nth_lt (b := 1000000000) (by omega) l hl i
      have hcr : wr.cell? ⟨b1, o1 + i, none⟩ = some (.int .u64 ((nth l i : Nat) : Int)) := (hB.cell (p := ⟨b1, o1 + i, none⟩) hb1).trans hcell1
      go_wp2
      obtain ⟨wo, rfl⟩ : ∃ wo : World, wo = wr := ⟨_, rfl⟩
      go_loopw [8, 26] (fun car sj wr => ∃ (j c : Nat) (o : List Nat), j ≤ m.length ∧ sj = .int .i64 j ∧ car = .int .u64 c ∧
          wr.ownsRow w.heap.size 135 1 (.slice (some ⟨w.heap.size, 0, none⟩) (l.length + m.length) (l.length + m.length)) (l.length + m.length) (cellsOf .u64 o) ∧ MulJ l m i j c o ∧ Below w.heap.size w wr)
        (fun _ j _ => m.length - (intOf j).toNat)
      case atStart => exact ⟨0, 0, o, Nat.zero_le _, rfl, rfl, hown, mulJ_zero hI, hB⟩
      case round =>
        obtain ⟨j, c, o, hjm, rfl, rfl, hown, hJ, hB⟩ := hrel
        have hc := hJ.2.2.1
        by_cases hlt2 : j < m.length
        · obtain ⟨b2, o2, rfl, hb2, hcell2⟩ := h2 j hlt2
          have hy := nth_lt (b := 1000000000) (by omega) m hm j
          have hcr2 : wr.cell? ⟨b2, o2 + j, none⟩ = some (.int .u64 ((nth m j : Nat) : Int)) := (hB.cell (p := ⟨b2, o2 + j, none⟩) hb2).trans hcell2
          have hol := hJ.1
          have hz := nth_lt (b := 1000000000) (by omega) o hJ.2.1 (i + j)
          have hco : wr.cell? ⟨w.heap.size, i + j, none⟩ = some (.int .u64 ((nth o (i + j) : Nat) : Int)) := (hown.cellAt (i + j) (by omega)).trans (cellsOf_at _ _ _ (by omega))
          have hfo : wr.frozen? ⟨w.heap.size, i + j, none⟩ = false := hown.frozenAt (i + j)
          have hbd : ((nth l i : Nat) : Int) * ((nth m j : Nat) : Int) ≤ 999999998000000001 := by rw [← Int.natCast_mul]; have := mul_bound _ _ hx hy; omega
          have hbd0 : 0 ≤ ((nth l i : Nat) : Int) * ((nth m j : Nat) : Int) := by rw [← Int.natCast_mul]; omega
          have hst := hown.stored (i + j) (.int .u64 ((((c + (nth o (i + j) + nth l i * nth m j)) % 1000000000 : Nat)) : Int))
          have HST := Lib.hid hst
          have HOL := Lib.hid hol
          clear hst hol
          go_wp2
          go_roundw
          case rel => exact ⟨j + 1, _, _, by omega, by go_num, by rw [cast7], by have := HST.out.1; rw [← cellsOf_set, cast6] at this; exact this, mulJ_step hJ hl hm hlt hlt2, by have := below_own hB HST.out.2; rw [cast6] at this; exact this⟩
          case measure => simp [intOf]; omega
        · obtain rfl : j = m.length := by omega
          have hJ' := mulJ_end hJ hlt
          have hol := hJ.1
          have hco : wr.cell? ⟨w.heap.size, i + m.length, none⟩ = some (.int .u64 ((nth o (i + m.length) : Nat) : Int)) := (hown.cellAt (i + m.length) (by omega)).trans (cellsOf_at _ _ _ (by omega))
          have hfo : wr.frozen? ⟨w.heap.size, i + m.length, none⟩ = false := hown.frozenAt (i + m.length)
          have hst := hown.stored (i + m.length) (.int .u64 (c : Int))
          rw [← cellsOf_set] at hst
          have HST := Lib.hid hst
          clear hst hol
          go_wp2
          go_roundw
          case rel => exact ⟨i + 1, _, by omega, by go_num, HST.out.1, hJ', below_own hB HST.out.2⟩
          case measure => simp [intOf]; omega
    · obtain rfl : i = l.length := by omega
      have hv := mulI_end hI
      have hol := hI.1
      have HV := Lib.hid hv
      have hrd : Rd .u64 135 wr (.slice (some ⟨w.heap.size, 0, none⟩) (l.length + m.length) (l.length + m.length)) o := by
        rw [← hol]
        refine Rd.of_own (base := w.heap.size) (T := 135) ?_
        rw [hol]; exact hown
      have hol2 : o.length ≤ 4294967296 := by omega
      clear hv hol
      go_wp2_with fail
      refine (trim_any _ o _ hrd hI.2.1 hol2).mono ?_
      rintro e w' ⟨v', rfl, hw, rfl⟩
      obtain ⟨a', cap', rfl⟩ := Rd.shape hw
      go_wp2
      go_ret
      exact ⟨_, rfl, ⟨a', _, cap', rfl⟩, by rw [← HV.out]; exact hw, hB⟩

/-- words.times -/
theorem wtimes_any (v1 v2 : Value) (m n : Nat) (w : World) (h1 : Wd w v1 m) (h2 : Wd w v2 n) (hm : (dig 1000000000 m).length ≤ 2147483647) (hn : (dig 1000000000 n).length ≤ 2147483647) :
    Calls Tryz.prog 135 #[v1, v2] w (GivesWd w (m * n)) := by
  obtain ⟨a1, c1, rfl, g1⟩ := Rd.at h1
  obtain ⟨a2, c2, rfl, g2⟩ := Rd.at h2
  have := times_at a1 a2 c1 c2 _ _ w g1 g2 (dig9_lt m) (dig9_lt n) hm hn
  rwa [val_dig9, val_dig9] at this
end Go.Proofs.YtnfmcdfdbipeoaaGreatDoor

namespace Go.Proofs.YtnfmcdfdbipeoaaGreatDoor
open Go.RowKit Go.Proofs.Num

theorem val_drop (b : Nat) (l : List Nat) (k : Nat) (hk : k < l.length) : val b (l.drop k) = nth l k + b * val b (l.drop (k + 1)) := by
  rw [List.drop_eq_getElem_cons hk, val_cons, nth, getD_get l k hk]

def DivI (l : List Nat) (v k r : Nat) (q : List Nat) : Prop :=
  q.length = l.length ∧ (∀ x ∈ q, x < 1000000000) ∧ r < v ∧ val 1000000000 (l.drop k) = val 1000000000 (q.drop k) * v + r

theorem divI_zero (l : List Nat) (v : Nat) (hv : 0 < v) : DivI l v l.length 0 (List.replicate l.length 0) :=
  ⟨by simp, fun x hx => by have := List.eq_of_mem_replicate hx; omega, hv, by rw [List.drop_of_length_le (Nat.le_refl _), List.drop_of_length_le (by simp)]; simp [val_nil]⟩

theorem divI_step {l : List Nat} {v k r : Nat} {q : List Nat} (h : DivI l v (k + 1) r q) (hl : ∀ x ∈ l, x < 1000000000) (hk : k < l.length) :
    DivI l v k ((r * 1000000000 + nth l k) % v) (q.set k ((r * 1000000000 + nth l k) / v)) := by
  obtain ⟨h1, h2, h3, h4⟩ := h
  have hx := nth_lt (b := 1000000000) (by omega) l hl k
  have hq : (r * 1000000000 + nth l k) / v < 1000000000 := by
    rw [Nat.div_lt_iff_lt_mul (by omega)]
    have : (r + 1) * 1000000000 ≤ v * 1000000000 := Nat.mul_le_mul_right _ h3
    rw [Nat.mul_comm 1000000000 v]; omega
  refine ⟨by simp [h1], mem_set_lt h2 hq, Nat.mod_lt _ (by omega), ?_⟩
  rw [val_drop _ l k hk, h4, val_drop _ (q.set k _) k (by simp; omega), nth_set_same _ _ _ (by omega)]
  have e : (q.set k ((r * 1000000000 + nth l k) / v)).drop (k + 1) = q.drop (k + 1) := by
    rw [List.drop_set]; simp
  rw [e]
  have h5 := Nat.mod_add_div (r * 1000000000 + nth l k) v
  generalize (r * 1000000000 + nth l k) / v = d at *
  generalize (r * 1000000000 + nth l k) % v = m at *
  generalize val 1000000000 (q.drop (k + 1)) = Q at *
  have : (d + 1000000000 * Q) * v = v * d + 1000000000 * (Q * v) := by rw [Nat.add_mul, Nat.mul_comm d, Nat.mul_assoc]
  omega

theorem divI_end {l : List Nat} {v r : Nat} {q : List Nat} (h : DivI l v 0 r q) : val 1000000000 q = val 1000000000 l / v ∧ r = val 1000000000 l % v := by
  obtain ⟨_, _, h3, h4⟩ := h
  simp only [List.drop_zero] at h4
  have h5 : val 1000000000 l / v = val 1000000000 q := by
    rw [h4, Nat.mul_comm, Nat.mul_add_div (by omega), Nat.div_eq_of_lt h3]; omega
  have h6 : val 1000000000 l % v = r := by
    rw [h4, Nat.mul_comm, Nat.mul_add_mod, Nat.mod_eq_of_lt h3]
  exact ⟨h5.symm, h6.symm⟩

def Gives2 (w : World) (q r : Nat) (e : Ending) (w' : World) : Prop := ∃ v1 v2, e = .returned (.tuple #[v1, v2]) ∧ Wd w' v1 q ∧ Wd w' v2 r ∧ Below w.heap.size w w'

theorem cast8 (r x v : Nat) : (((r * 1000000000 + x) % v : Nat) : Int) = ((r : Int) * 1000000000 + x) % (v : Int) := by
  have h : ((r * 1000000000 + x : Nat) : Int) = (r : Int) * 1000000000 + x := by omega
  rw [Int.natCast_emod, h]
theorem cast9 (r x v : Nat) : (((r * 1000000000 + x) / v : Nat) : Int) = ((r : Int) * 1000000000 + x) / (v : Int) := by
  have h : ((r * 1000000000 + x : Nat) : Int) = (r : Int) * 1000000000 + x := by omega
  rw [Int.natCast_ediv, h]

theorem rd_one (w : World) (x : Nat) : Rd .u64 135 (w.alloc (.cells #[.int .u64 (x : Int)] 135)) (.slice (some ⟨w.heap.size, 0, none⟩) 1 1) [x] := by
  refine .inr ⟨w.heap.size, 0, 1, rfl, by simp, by rw [World.size_alloc]; omega, ⟨_, _, heap_alloc_new w _⟩, fun j hj => ?_⟩
  obtain rfl : j = 0 := by simp at hj; exact hj
  rw [World.cell?_alloc_at _ _ _ _ rfl]; rfl

set_option maxHeartbeats 3200000 in
set_option maxRecDepth 100000 in
theorem divideWord_at (b1 o1 c1 : Nat) (l : List Nat) (v : Nat) (w : World) (h1 : RdAt .u64 135 w b1 o1 c1 l) (hl : ∀ x ∈ l, x < 1000000000) (hsl : l.length ≤ 4294967295) (hv0 : 1 ≤ v) (hv : v ≤ 1000000000) :
    Calls Tryz.prog 160 #[.slice (some ⟨b1, o1, none⟩) l.length c1, .int .u64 v] w (Gives2 w (val 1000000000 l / v) (val 1000000000 l % v)) := by
  obtain ⟨i0, hi, hz0, hz1, hz2⟩ := info_parts info102
  have hvne : ((v : Int) == 0) = false := by simp; omega
  go_enter Tryz.func160, Tryz.ntmps160
  go_wp2_with (at_make; refine wpList_make_full _ rfl _ _ 102 rfl w.heap.size 135 i0 (.int .u64 0) 1 Tryz.underlying102 hi hz0 hz1 _ _ _ _ l.length rfl rfl (by omega) (by omega) ?b2 ?b3 (Nat.le_refl _) ?_)
  case b2 => rw [hz2]; omega
  case b3 => unfold maxLen; omega
  intro w0 hown0 hgrow0
  rw [toList_madeCells_one, ← cellsOf_replicate] at hown0
  go_wp2
  go_loopw [7, 8] (fun sr si wr => ∃ (k r : Nat) (q : List Nat), k ≤ l.length ∧ si = .int .i64 ((k : Int) - 1) ∧ sr = .int .u64 r ∧
      wr.ownsRow w.heap.size 135 1 (.slice (some ⟨w.heap.size, 0, none⟩) l.length l.length) l.length (cellsOf .u64 q) ∧ DivI l v k r q ∧ Below w.heap.size w wr)
    (fun _ i _ => (intOf i + 1).toNat)
  case atStart => exact ⟨l.length, 0, _, Nat.le_refl _, rfl, rfl, hown0, divI_zero l v (by omega), (Below.refl _ _).grown hgrow0 (Nat.le_refl _) (fun k h => by cases h)⟩
  case round =>
    obtain ⟨k, r, q, hk, rfl, rfl, hown, hI, hB⟩ := hrel
    by_cases h0 : k = 0
    · subst h0
      obtain ⟨e1, e2⟩ := divI_end hI
      have hrd : Rd .u64 135 wr (.slice (some ⟨w.heap.size, 0, none⟩) l.length l.length) q := by
        rw [← hI.1]
        refine Rd.of_own (base := w.heap.size) (T := 135) ?_
        rw [hI.1]; exact hown
      have hql : q.length ≤ 4294967296 := by rw [hI.1]; omega
      have hr := hI.2.2.1
      have E1 := Lib.hid e1
      have E2 := Lib.hid e2
      clear e1 e2
      go_wp2_with fail
      refine (trim_any _ q _ hrd hI.2.1 hql).mono ?_
      rintro e w' ⟨v', rfl, hw, rfl⟩
      obtain ⟨a', cap', rfl⟩ := Rd.shape hw
      go_wp2_with fail
      refine (trim_any _ [r] _ (rd_one wr r) (by intro x hx; simp at hx; omega) (by simp)).mono ?_
      rintro e w' ⟨v', rfl, hw2, rfl⟩
      obtain ⟨a2, cap2, rfl⟩ := Rd.shape hw2
      go_wp2
      go_ret2
      exact ⟨_, _, rfl, by rw [← E1.out]; exact hw.keep ((Below.refl _ _).alloc (Nat.le_refl _) _), by rw [← E2.out]; exact hw2, hB.alloc hB.size _⟩
    · obtain ⟨j, rfl⟩ : ∃ j, k = j + 1 := ⟨k - 1, by omega⟩
      have hx := nth_lt (b := 1000000000) (by omega) l hl j
      have hcr : wr.cell? ⟨b1, o1 + j, none⟩ = some (.int .u64 ((nth l j : Nat) : Int)) := (hB.cell (p := ⟨b1, o1 + j, none⟩) h1.lt).trans (h1.cell j (by omega))
      have hr := hI.2.2.1
      have hco : wr.cell? ⟨w.heap.size, j, none⟩ = some (.int .u64 ((nth q j : Nat) : Int)) := (hown.cellAt j (by omega)).trans (cellsOf_at _ _ _ (by rw [hI.1]; omega))
      have hfo : wr.frozen? ⟨w.heap.size, j, none⟩ = false := hown.frozenAt j
      have hst := hown.stored j (.int .u64 (((r * 1000000000 + nth l j) / v : Nat) : Int))
      rw [← cellsOf_set, cast9] at hst
      have HST := Lib.hid hst
      have hI' := divI_step hI hl (by omega)
      rw [show (((j + 1 : Nat) : Int) - 1) = (j : Int) by omega]
      clear hst
      go_wp2
      go_roundw
      case rel => exact ⟨j, _, _, by omega, by go_num, by rw [cast8], HST.out.1, hI', below_own hB HST.out.2⟩
      case measure => simp [intOf]

theorem dig9_nil {n : Nat} (h : dig 1000000000 n = []) : n = 0 := (dig_eq_nil (by omega) n).1 h

/-- words.divideWord; the divisor is from 1 to the base. -/
theorem wdivideWord_any (v1 : Value) (m v : Nat) (w : World) (h1 : Wd w v1 m) (hm : (dig 1000000000 m).length ≤ 4294967295) (hm0 : m ≠ 0) (hv0 : 1 ≤ v) (hv : v ≤ 1000000000) :
    Calls Tryz.prog 160 #[v1, .int .u64 v] w (Gives2 w (m / v) (m % v)) := by
  rcases h1 with ⟨h, _⟩ | ⟨b, off, cap, rfl, h⟩
  · exact absurd (dig9_nil h) hm0
  · have := divideWord_at b off cap _ v w h (dig9_lt m) hm hv0 hv
    rwa [val_dig9] at this

theorem dig_len_pos {b n : Nat} (hb : 2 ≤ b) (hn : n ≠ 0) : (dig b n).length = (dig b (n / b)).length + 1 := by rw [dig_pos hb hn]; rfl

theorem dig_len_div {b : Nat} (hb : 2 ≤ b) : ∀ (m n : Nat), n / b ^ m ≠ 0 → (dig b n).length = m + (dig b (n / b ^ m)).length
  | 0, n, _ => by simp
  | m + 1, n, h => by
    have e : n / b ^ (m + 1) = n / b / b ^ m := by rw [Nat.pow_succ, Nat.mul_comm, Nat.div_div_eq_div_mul]
    have hn : n ≠ 0 := by rintro rfl; simp at h
    rw [dig_len_pos hb hn, e, dig_len_div hb m (n / b) (by rw [← e]; exact h)]; omega

theorem pow9 (m : Nat) : (1000000000 : Nat) ^ m = 10 ^ (9 * m) := by rw [Nat.pow_mul]

theorem dig_len_top (n k : Nat) (hk : (dig 1000000000 n).length = k + 1) : (dig 10 n).length = k * 9 + (dig 10 (nth (dig 1000000000 n) k)).length := by
  have hnm := dig_norm (b := 1000000000) (by omega) n
  have h1 : dig 1000000000 n = (dig 1000000000 n).take k ++ [nth (dig 1000000000 n) k] := by
    rw [← take_succ_nth _ k (by omega), ← hk, List.take_length]
  have h0 : nth (dig 1000000000 n) k ≠ 0 := by
    intro h
    have h2 := hnm.2
    rw [h1, h, List.getLast?_concat] at h2
    exact h2 rfl
  have h3 : n = val 1000000000 ((dig 1000000000 n).take k) + 10 ^ (9 * k) * nth (dig 1000000000 n) k := by
    have h4 := val_dig (b := 1000000000) (by omega) n
    rw [h1, val_snoc, List.length_take, Nat.min_eq_left (by omega), pow9] at h4
    exact h4.symm
  have h5 : val 1000000000 ((dig 1000000000 n).take k) < 10 ^ (9 * k) := by
    have := val_lt (b := 1000000000) (by omega) ((dig 1000000000 n).take k) (fun x hx => hnm.1 x (List.mem_of_mem_take hx))
    rwa [List.length_take, Nat.min_eq_left (by omega), pow9] at this
  have h6 : n / 10 ^ (9 * k) = nth (dig 1000000000 n) k := by
    conv => lhs; rw [h3]
    rw [Nat.add_mul_div_left _ _ (Nat.pow_pos (by omega)), Nat.div_eq_of_lt h5]; omega
  rw [dig_len_div (by omega) (9 * k) n (by rw [h6]; exact h0), h6]; omega

theorem dig10_small {t : Nat} (h : t < 1000000000) : (dig 10 t).length ≤ 9 := dig_length_le (by omega) 9 t (by omega)

theorem wdigits_nil (a : Option Addr) (cap : Nat) (w : World) : Calls Tryz.prog 128 #[.slice a 0 cap] w fun e w' => e = .returned (.int .i64 0) ∧ w = w' := by
  go_enter Tryz.func128, Tryz.ntmps128
  go_wp2
  go_ret
  exact ⟨rfl, rfl⟩

set_option maxHeartbeats 1600000 in
set_option maxRecDepth 100000 in
/-- words.digits: the number of decimal digits, 0 for 0. -/
theorem wdigits_any (v1 : Value) (n : Nat) (w : World) (h1 : Wd w v1 n) (hn : (dig 1000000000 n).length ≤ 4294967295) :
    Calls Tryz.prog 128 #[v1] w fun e w' => e = .returned (.int .i64 ((dig 10 n).length : Nat)) ∧ w = w' := by
  by_cases h0 : n = 0
  · subst h0
    obtain ⟨a, cap, rfl⟩ := Rd.shape h1
    rw [dig_zero, dig_zero]
    exact wdigits_nil a cap w
  rcases h1 with ⟨h, a, cap, rfl⟩ | ⟨b, off, cap, rfl, h⟩
  · exact absurd (dig9_nil h) h0
  · obtain ⟨k, hk⟩ : ∃ k, (dig 1000000000 n).length = k + 1 := by
      cases hl : dig 1000000000 n with
      | nil =>
        obtain rfl := dig9_nil hl
        exact absurd rfl h0
      | cons x xs => exact ⟨xs.length, by simp⟩
    have ht := dig_len_top n k hk
    have hx := nth_lt (b := 1000000000) (by omega) _ (dig9_lt n) k
    have hcr : w.cell? ⟨b, off + k, none⟩ = some (.int .u64 ((nth (dig 1000000000 n) k : Nat) : Int)) := h.cell k (by omega)
    rw [ht, hk]
    generalize nth (dig 1000000000 n) k = t at *
    have h9 := dig10_small hx
    clear h ht
    go_enter Tryz.func128, Tryz.ntmps128
    go_wp2
    go_loop [3, 4] (fun sc st => ∃ (c u : Nat), sc = .int .i64 c ∧ st = .int .u64 u ∧ c + (dig 10 u).length = k * 9 + (dig 10 t).length ∧ u < 1000000000) (fun _ u => (intOf u).toNat)
    case atStart => exact ⟨k * 9, t, by go_num, rfl, rfl, hx⟩
    case round =>
      obtain ⟨c, u, rfl, rfl, hcu, hu⟩ := hrel
      by_cases h0 : u = 0
      · subst h0
        rw [dig_zero] at hcu
        simp at hcu
        subst hcu
        go_wp2
        go_ret
        exact ⟨rfl, rfl⟩
      · have h10 := dig_len_pos (b := 10) (by omega) h0
        have HC : Hid (c + (dig 10 u).length = k * 9 + (dig 10 t).length) := hcu
        have H10 := Lib.hid h10
        have hcb : c ≤ k * 9 + 9 := by omega
        clear hcu h10
        go_wp2
        go_round
        case rel => exact ⟨c + 1, u / 10, by go_num, by go_num, by have h1 := HC.out; have h2 := H10.out; omega, by omega⟩
        case measure => simp [intOf]; omega
end Go.Proofs.YtnfmcdfdbipeoaaGreatDoor
