/- Walks of the words' functions: the sum. -/
import Derived.Test.YtbmonfbbkmpdhaaDoorWa
import Derived.Maps.AppendAt
namespace Go.Proofs.YtbmonfbbkmpdhaaDoor
open Go.RowKit Go.Proofs.Num

theorem info102 : (Tryd.prog.info? 102).map (fun i => (i.zero, i.size, i.bytes)) = some (some (.int .u64 0), 1, 8) := by kernel_rfl

/-- A reading with its address kept open. -/
def At (q : IntKind) (w : World) (a : Option Addr) (l : List Nat) : Prop := ∀ j, j < l.length → ∃ b off, a = some ⟨b, off, none⟩ ∧ b < w.heap.size ∧ w.cell? ⟨b, off + j, none⟩ = some (.int q ((nth l j : Nat) : Int))

theorem Rd.at {q : IntKind} {T : TypeId} {w : World} {v : Value} {l : List Nat} (h : Rd q T w v l) : ∃ a cap, v = .slice a l.length cap ∧ At q w a l := by
  rcases h with ⟨rfl, a, cap, rfl⟩ | ⟨b, off, cap, rfl, h⟩
  · exact ⟨a, cap, rfl, fun j hj => by simp at hj⟩
  · exact ⟨_, cap, rfl, fun j hj => ⟨b, off, rfl, h.lt, h.cell j hj⟩⟩

theorem At.keep {q : IntKind} {w w' : World} {a : Option Addr} {l : List Nat} (h : At q w a l) (hb : Below w.heap.size w w') : At q w' a l := by
  intro j hj
  obtain ⟨b, off, e, hlt, hc⟩ := h j hj
  exact ⟨b, off, e, Nat.lt_of_lt_of_le hlt hb.size, (hb.cell (p := ⟨b, off + j, none⟩) hlt).trans hc⟩

theorem cast3 (c x y : Nat) : (((c + x + y) % 1000000000 : Nat) : Int) = ((c : Int) + x + y) % 1000000000 := by omega
theorem cast2 (c x : Nat) : (((c + x + 0) % 1000000000 : Nat) : Int) = ((c : Int) + x) % 1000000000 := by omega
theorem below_app {w wr w1 : World} {o : Obj} (hB : Below w.heap.size w wr) (hg : (wr.alloc o).grownBy w1 (some w.heap.size)) : Below w.heap.size w w1 :=
  (hB.alloc hB.size _).grown hg (Nat.le_trans hB.size (by rw [World.size_alloc]; omega)) (fun k h => by cases h; exact Nat.le_refl _)

/-- The state of the loop that adds. -/
def AddI (l m : List Nat) (k c : Nat) (o : List Nat) : Prop :=
  o.length = k ∧ c ≤ 1 ∧ (∀ x ∈ o, x < 1000000000) ∧ val 1000000000 o + c * 1000000000 ^ k = val 1000000000 (l.take k) + val 1000000000 (m.take k)

theorem addI_zero (l m : List Nat) : AddI l m 0 0 [] := ⟨rfl, by omega, by simp, by simp [val_nil]⟩

theorem addI_step {l m : List Nat} {k c : Nat} {o : List Nat} (h : AddI l m k c o) (hl : ∀ x ∈ l, x < 1000000000) (hm : ∀ x ∈ m, x < 1000000000) :
    AddI l m (k + 1) ((c + nth l k + nth m k) / 1000000000) (o ++ [(c + nth l k + nth m k) % 1000000000]) := by
  obtain ⟨h1, h2, h3, h4⟩ := h
  have hx := nth_lt (b := 1000000000) (by omega) l hl k
  have hy := nth_lt (b := 1000000000) (by omega) m hm k
  refine ⟨by simp [h1], by omega, ?_, ?_⟩
  · intro x hx'
    rcases List.mem_append.1 hx' with hx' | hx'
    · exact h3 x hx'
    · simp at hx'; omega
  · rw [val_snoc, h1, val_take_nth, val_take_nth]
    exact add_step 1000000000 k _ c _ _ _ _ _ h4 rfl

theorem addI_end {l m : List Nat} {k c : Nat} {o : List Nat} (h : AddI l m k c o) (hk : l.length ≤ k) (hm : m.length ≤ k) :
    val 1000000000 (o ++ [c]) = val 1000000000 l + val 1000000000 m ∧ (∀ x ∈ o ++ [c], x < 1000000000) := by
  obtain ⟨h1, h2, h3, h4⟩ := h
  rw [List.take_of_length_le hk, List.take_of_length_le hm] at h4
  refine ⟨by rw [val_snoc, h1, Nat.mul_comm]; exact h4, ?_⟩
  intro x hx'
  rcases List.mem_append.1 hx' with hx' | hx'
  · exact h3 x hx'
  · simp at hx'; omega

set_option maxHeartbeats 1600000 in
set_option maxRecDepth 100000 in
theorem plus_ge (a1 a2 : Option Addr) (c1 c2 : Nat) (l m : List Nat) (w : World) (h1 : At .u64 w a1 l) (h2 : At .u64 w a2 m) (hl : ∀ x ∈ l, x < 1000000000) (hm : ∀ x ∈ m, x < 1000000000)
    (hlm : m.length ≤ l.length) (hsm : l.length ≤ 4294967295) :
    Calls Tryd.prog 87 #[.slice a1 l.length c1, .slice a2 m.length c2] w (GivesWd w (val 1000000000 l + val 1000000000 m)) := by
  obtain ⟨i0, hi, hz0, hz1, hz2⟩ := info_parts info102
  have hsw : decide (l.length < m.length) = false := by simp; omega
  go_enter Tryd.func87, Tryd.ntmps87
  go_wp2_with (at_make; refine wpList_make_own _ rfl _ _ 71 rfl w.heap.size 102 i0 (.int .u64 0) 1 Tryd.underlying71 hi hz0 hz1 _ _ _ (l.length + 1) rfl rfl (by omega) ?b2 ?b3 (Nat.le_refl _) ?_)
  case b2 => rw [hz2]; omega
  case b3 => unfold maxLen; omega
  intro w0 hown0 hgrow0
  go_wp2
  go_loopw [5, 6, 22] (fun out car i wr => ∃ (k c : Nat) (o : List Nat), k ≤ l.length ∧ i = .int .i64 k ∧ car = .int .u64 c ∧ out = .slice (some ⟨w.heap.size, 0, none⟩) k (l.length + 1) ∧
      wr.ownsRow w.heap.size 102 1 (.slice (some ⟨w.heap.size, 0, none⟩) k (l.length + 1)) k (cellsOf .u64 o) ∧ AddI l m k c o ∧ Below w.heap.size w wr)
    (fun _ _ i _ => l.length - (intOf i).toNat)
  case atStart => exact ⟨0, 0, [], Nat.zero_le _, rfl, rfl, rfl, hown0, addI_zero l m, (Below.refl _ _).grown hgrow0 (Nat.le_refl _) (fun k h => by cases h)⟩
  case round =>
    obtain ⟨k, c, o, hk, rfl, rfl, rfl, hown, hI, hB⟩ := hrel
    have hc1 := hI.2.1
    by_cases hlt : k < l.length
    · obtain ⟨b1, o1, rfl, hb1, hcell1⟩ := h1 k hlt
      have hx := nth_lt (b := 1000000000) (by omega) l hl k
      have hcr : wr.cell? ⟨b1, o1 + k, none⟩ = some (.int .u64 ((nth l k : Nat) : Int)) := (hB.cell (p := ⟨b1, o1 + k, none⟩) hb1).trans hcell1
      by_cases hlt2 : k < m.length
      · obtain ⟨b2, o2, rfl, hb2, hcell2⟩ := h2 k hlt2
        have hy := nth_lt (b := 1000000000) (by omega) m hm k
        have hcr2 : wr.cell? ⟨b2, o2 + k, none⟩ = some (.int .u64 ((nth m k : Nat) : Int)) := (hB.cell (p := ⟨b2, o2 + k, none⟩) hb2).trans hcell2
        go_wp2_with (at_builtin; refine wpList_append_fits _ rfl _ _ 71 rfl w.heap.size 102 i0 1 Tryd.underlying71 hi hz1 w.heap.size k (l.length + 1) _ rfl (hown.alloc _) ⟨wr.heap.size, 0, none⟩ 1 1 [_] rfl rfl (cell_one_new _ _ _) (by simp [Value.oneCell']) (by omega) ?_; intro w1 hown1 hgrow1)
        go_roundw
        case rel => exact ⟨k + 1, _, _, by omega, by go_num, by go_num, rfl, by rw [cellsOf_append, cellsOf_one, cast3]; exact hown1, addI_step hI hl hm, below_app hB hgrow1⟩
        case measure => simp [intOf]; omega
      · have hy : nth m k = 0 := nth_past m k (by omega)
        have hI' := addI_step hI hl hm
        rw [hy] at hI'
        clear hy
        go_wp2_with (at_builtin; refine wpList_append_fits _ rfl _ _ 71 rfl w.heap.size 102 i0 1 Tryd.underlying71 hi hz1 w.heap.size k (l.length + 1) _ rfl (hown.alloc _) ⟨wr.heap.size, 0, none⟩ 1 1 [_] rfl rfl (cell_one_new _ _ _) (by simp [Value.oneCell']) (by omega) ?_; intro w1 hown1 hgrow1)
        go_roundw
        case rel => exact ⟨k + 1, _, _, by omega, by go_num, by go_num, rfl, by rw [cellsOf_append, cellsOf_one, cast2]; exact hown1, hI', below_app hB hgrow1⟩
        case measure => simp [intOf]; omega
    · obtain rfl : k = l.length := by omega
      obtain ⟨hv, hlt3⟩ := addI_end hI (Nat.le_refl _) hlm
      have hol := hI.1
      have HV := Lib.hid hv
      have HO := Lib.hid hol
      have hol2 : (o ++ [c]).length ≤ 4294967296 := by simp; omega
      clear hv hol
      go_wp2_with (at_builtin; refine wpList_append_fits _ rfl _ _ 71 rfl w.heap.size 102 i0 1 Tryd.underlying71 hi hz1 w.heap.size l.length (l.length + 1) _ rfl (hown.alloc _) ⟨wr.heap.size, 0, none⟩ 1 1 [_] rfl rfl (cell_one_new _ _ _) (by simp [Value.oneCell']) (by omega) ?_; intro w1 hown1 hgrow1)
      have hlen : (o ++ [c]).length = l.length + 1 := by rw [List.length_append, HO.out]; rfl
      have hrd : Rd .u64 102 w1 (.slice (some ⟨w.heap.size, 0, none⟩) (l.length + 1) (l.length + 1)) (o ++ [c]) := by
        refine Rd.of_own (base := w.heap.size) (T := 102) ?_
        rw [hlen, cellsOf_append, cellsOf_one]; exact hown1
      have hB1 : Below w.heap.size w w1 := below_app hB hgrow1
      refine (trim_any _ (o ++ [c]) _ hrd hlt3 hol2).mono ?_
      rintro e w' ⟨v', rfl, hw, rfl⟩
      obtain ⟨a', cap', rfl⟩ := Rd.shape hw
      go_wp2
      go_ret
      exact ⟨_, rfl, ⟨a', _, cap', rfl⟩, by rw [← HV.out]; exact hw, hB1⟩
set_option maxHeartbeats 1600000 in
set_option maxRecDepth 100000 in
theorem plus_lt (a1 a2 : Option Addr) (c1 c2 : Nat) (l m : List Nat) (w : World) (h1 : At .u64 w a1 l) (h2 : At .u64 w a2 m) (hl : ∀ x ∈ l, x < 1000000000) (hm : ∀ x ∈ m, x < 1000000000)
    (hlm : m.length < l.length) (hsm : l.length ≤ 4294967295) :
    Calls Tryd.prog 87 #[.slice a2 m.length c2, .slice a1 l.length c1] w (GivesWd w (val 1000000000 l + val 1000000000 m)) := by
  obtain ⟨i0, hi, hz0, hz1, hz2⟩ := info_parts info102
  have hsw : decide (m.length < l.length) = true := by simp; omega
  go_enter Tryd.func87, Tryd.ntmps87
  go_wp2_with (at_make; refine wpList_make_own _ rfl _ _ 71 rfl w.heap.size 102 i0 (.int .u64 0) 1 Tryd.underlying71 hi hz0 hz1 _ _ _ (l.length + 1) rfl rfl (by omega) ?b2 ?b3 (Nat.le_refl _) ?_)
  case b2 => rw [hz2]; omega
  case b3 => unfold maxLen; omega
  intro w0 hown0 hgrow0
  go_wp2
  go_loopw [5, 6, 22] (fun out car i wr => ∃ (k c : Nat) (o : List Nat), k ≤ l.length ∧ i = .int .i64 k ∧ car = .int .u64 c ∧ out = .slice (some ⟨w.heap.size, 0, none⟩) k (l.length + 1) ∧
      wr.ownsRow w.heap.size 102 1 (.slice (some ⟨w.heap.size, 0, none⟩) k (l.length + 1)) k (cellsOf .u64 o) ∧ AddI l m k c o ∧ Below w.heap.size w wr)
    (fun _ _ i _ => l.length - (intOf i).toNat)
  case atStart => exact ⟨0, 0, [], Nat.zero_le _, rfl, rfl, rfl, hown0, addI_zero l m, (Below.refl _ _).grown hgrow0 (Nat.le_refl _) (fun k h => by cases h)⟩
  case round =>
    obtain ⟨k, c, o, hk, rfl, rfl, rfl, hown, hI, hB⟩ := hrel
    have hc1 := hI.2.1
    by_cases hlt : k < l.length
    · obtain ⟨b1, o1, rfl, hb1, hcell1⟩ := h1 k hlt
      have hx := nth_lt (b := 1000000000) (by omega) l hl k
      have hcr : wr.cell? ⟨b1, o1 + k, none⟩ = some (.int .u64 ((nth l k : Nat) : Int)) := (hB.cell (p := ⟨b1, o1 + k, none⟩) hb1).trans hcell1
      by_cases hlt2 : k < m.length
      · obtain ⟨b2, o2, rfl, hb2, hcell2⟩ := h2 k hlt2
        have hy := nth_lt (b := 1000000000) (by omega) m hm k
        have hcr2 : wr.cell? ⟨b2, o2 + k, none⟩ = some (.int .u64 ((nth m k : Nat) : Int)) := (hB.cell (p := ⟨b2, o2 + k, none⟩) hb2).trans hcell2
        go_wp2_with (at_builtin; refine wpList_append_fits _ rfl _ _ 71 rfl w.heap.size 102 i0 1 Tryd.underlying71 hi hz1 w.heap.size k (l.length + 1) _ rfl (hown.alloc _) ⟨wr.heap.size, 0, none⟩ 1 1 [_] rfl rfl (cell_one_new _ _ _) (by simp [Value.oneCell']) (by omega) ?_; intro w1 hown1 hgrow1)
        go_roundw
        case rel => exact ⟨k + 1, _, _, by omega, by go_num, by go_num, rfl, by rw [cellsOf_append, cellsOf_one, cast3]; exact hown1, addI_step hI hl hm, below_app hB hgrow1⟩
        case measure => simp [intOf]; omega
      · have hy : nth m k = 0 := nth_past m k (by omega)
        have hI' := addI_step hI hl hm
        rw [hy] at hI'
        clear hy
        go_wp2_with (at_builtin; refine wpList_append_fits _ rfl _ _ 71 rfl w.heap.size 102 i0 1 Tryd.underlying71 hi hz1 w.heap.size k (l.length + 1) _ rfl (hown.alloc _) ⟨wr.heap.size, 0, none⟩ 1 1 [_] rfl rfl (cell_one_new _ _ _) (by simp [Value.oneCell']) (by omega) ?_; intro w1 hown1 hgrow1)
        go_roundw
        case rel => exact ⟨k + 1, _, _, by omega, by go_num, by go_num, rfl, by rw [cellsOf_append, cellsOf_one, cast2]; exact hown1, hI', below_app hB hgrow1⟩
        case measure => simp [intOf]; omega
    · obtain rfl : k = l.length := by omega
      obtain ⟨hv, hlt3⟩ := addI_end hI (Nat.le_refl _) (by omega)
      have hol := hI.1
      have HV := Lib.hid hv
      have HO := Lib.hid hol
      have hol2 : (o ++ [c]).length ≤ 4294967296 := by simp; omega
      clear hv hol
      go_wp2_with (at_builtin; refine wpList_append_fits _ rfl _ _ 71 rfl w.heap.size 102 i0 1 Tryd.underlying71 hi hz1 w.heap.size l.length (l.length + 1) _ rfl (hown.alloc _) ⟨wr.heap.size, 0, none⟩ 1 1 [_] rfl rfl (cell_one_new _ _ _) (by simp [Value.oneCell']) (by omega) ?_; intro w1 hown1 hgrow1)
      have hlen : (o ++ [c]).length = l.length + 1 := by rw [List.length_append, HO.out]; rfl
      have hrd : Rd .u64 102 w1 (.slice (some ⟨w.heap.size, 0, none⟩) (l.length + 1) (l.length + 1)) (o ++ [c]) := by
        refine Rd.of_own (base := w.heap.size) (T := 102) ?_
        rw [hlen, cellsOf_append, cellsOf_one]; exact hown1
      have hB1 : Below w.heap.size w w1 := below_app hB hgrow1
      refine (trim_any _ (o ++ [c]) _ hrd hlt3 hol2).mono ?_
      rintro e w' ⟨v', rfl, hw, rfl⟩
      obtain ⟨a', cap', rfl⟩ := Rd.shape hw
      go_wp2
      go_ret
      exact ⟨_, rfl, ⟨a', _, cap', rfl⟩, by rw [← HV.out]; exact hw, hB1⟩

theorem dig9_lt (n : Nat) : ∀ x ∈ dig 1000000000 n, x < 1000000000 := dig_lt (by omega) n
theorem val_dig9 (n : Nat) : val 1000000000 (dig 1000000000 n) = n := val_dig (by omega) n

/-- words.plus -/
theorem wplus_any (v1 v2 : Value) (m n : Nat) (w : World) (h1 : Wd w v1 m) (h2 : Wd w v2 n) (hm : (dig 1000000000 m).length ≤ 4294967295) (hn : (dig 1000000000 n).length ≤ 4294967295) :
    Calls Tryd.prog 87 #[v1, v2] w (GivesWd w (m + n)) := by
  obtain ⟨a1, c1, rfl, g1⟩ := Rd.at h1
  obtain ⟨a2, c2, rfl, g2⟩ := Rd.at h2
  rcases Nat.lt_or_ge (dig 1000000000 m).length (dig 1000000000 n).length with h | h
  · have := plus_lt a2 a1 c2 c1 _ _ w g2 g1 (dig9_lt n) (dig9_lt m) h hn
    rwa [val_dig9, val_dig9, Nat.add_comm] at this
  · have := plus_ge a1 a2 c1 c2 _ _ w g1 g2 (dig9_lt m) (dig9_lt n) h hm
    rwa [val_dig9, val_dig9] at this
end Go.Proofs.YtbmonfbbkmpdhaaDoor
