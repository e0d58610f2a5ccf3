/- The lexer's table of classes. -/
import Derived.Test.YtffcahhnaomegaaDoorLc
import Derived.Laws.Rows
import Derived.Laws.EntriesVeiled
import Derived.Lib.OthersKept
import Derived.Deep.MidRow
import Derived.Laws.CopyOwn
namespace Go.Proofs.YtffcahhnaomegaaDoor
open Go.RowKit Go.Proofs.Lx

def Blk (w : World) (g : Nat) (t : TypeId) (cs : Array Value) : Prop := w.heap[g]? = some (.cells cs t (0, 0))
theorem Blk.lt {w : World} {g : Nat} {t : TypeId} {cs : Array Value} (h : Blk w g t cs) : g < w.heap.size := by
  rcases Nat.lt_or_ge g w.heap.size with hlt | hge
  · exact hlt
  · unfold Blk at h; rw [Array.getElem?_eq_none hge] at h; cases h
theorem Blk.cell {w : World} {g : Nat} {t : TypeId} {cs : Array Value} (h : Blk w g t cs) (i : Nat) : w.cell? ⟨g, i, none⟩ = cs[i]? := cell_of_row w g i cs t (0, 0) h
theorem Blk.frozen {w : World} {g : Nat} {t : TypeId} {cs : Array Value} (h : Blk w g t cs) (i : Nat) : w.frozen? ⟨g, i, none⟩ = false := by
  unfold Blk at h
  simp [World.frozen?, h]
theorem Blk.set_ {w : World} {g : Nat} {t : TypeId} {cs : Array Value} (h : Blk w g t cs) (i : Nat) (u : Value) : Blk (w.setCell ⟨g, i, none⟩ u) g t (cs.setIfInBounds i u) := by
  unfold Blk at h ⊢
  simp [World.setCell, Array.getElem?_modify, h]
theorem Blk.far {w : World} {g : Nat} {t : TypeId} {cs : Array Value} (h : Blk w g t cs) {p : Addr} (hp : g ≠ p.block) (u : Value) : Blk (w.setCell p u) g t cs := (Below.heap_setCell w p u g hp).trans h
theorem Blk.new (w : World) (t : TypeId) (cs : Array Value) : Blk (w.alloc (.cells cs t)) w.heap.size t cs := heap_alloc_new w _
theorem Blk.alloc {w : World} {g : Nat} {t : TypeId} {cs : Array Value} (h : Blk w g t cs) (o : Obj) : Blk (w.alloc o) g t cs := (Below.heap_alloc w o g h.lt).trans h
theorem Blk.below {w w' : World} {g B : Nat} {t : TypeId} {cs : Array Value} (h : Blk w g t cs) (hb : Below B w w') (hg : g < B) : Blk w' g t cs := (hb.block g hg).trans h

/-- A table with one entry written. -/
def put3 (cs : Array Value) (k : Nat) (kind : Int) (blank : Bool) (f : Nat) : Array Value :=
  ((cs.setIfInBounds (k * 3) (.int .i64 kind)).setIfInBounds (k * 3 + 1) (.bool blank)).setIfInBounds (k * 3 + 2) (.func (.func f) #[] #[])
theorem size_put3 (cs : Array Value) (k : Nat) (kind : Int) (blank : Bool) (f : Nat) : (put3 cs k kind blank f).size = cs.size := by simp [put3]
/-- A table with n entries from one on written. -/
def putN (kind : Int) (blank : Bool) (f base : Nat) (cs : Array Value) : Nat → Array Value
  | 0 => cs
  | n + 1 => put3 (putN kind blank f base cs n) (base + n) kind blank f
theorem size_putN (kind : Int) (blank : Bool) (f base : Nat) (cs : Array Value) (n : Nat) : (putN kind blank f base cs n).size = cs.size := by
  induction n with
  | zero => rfl
  | succ n ih => rw [putN, size_put3, ih]
theorem Blk.put3 {w : World} {g : Nat} {t : TypeId} {cs : Array Value} (h : Blk w g t cs) (k : Nat) (kind : Int) (blank : Bool) (f : Nat) :
    Blk (((w.setCell ⟨g, k * 3, none⟩ (.int .i64 kind)).setCell ⟨g, k * 3 + 1, none⟩ (.bool blank)).setCell ⟨g, k * 3 + 2, none⟩ (.func (.func f) #[] #[])) g t (put3 cs k kind blank f) :=
  ((h.set_ _ _).set_ _ _).set_ _ _
theorem below3 {B : Nat} {w0 w : World} (h : Below B w0 w) {g : Nat} (hg : B ≤ g) (i j k : Nat) (a b c : Value) :
    Below B w0 (((w.setCell ⟨g, i, none⟩ a).setCell ⟨g, j, none⟩ b).setCell ⟨g, k, none⟩ c) := ((h.setCell hg _).setCell hg _).setCell hg _
theorem far3 {w : World} {h0 g : Nat} {t : TypeId} {cs : Array Value} (h : Blk w h0 t cs) (hg : h0 ≠ g) (i j k : Nat) (a b c : Value) :
    Blk (((w.setCell ⟨g, i, none⟩ a).setCell ⟨g, j, none⟩ b).setCell ⟨g, k, none⟩ c) h0 t cs := ((h.far hg _).far hg _).far hg _
theorem cells3 {w : World} {g : Nat} {t : TypeId} {cs : Array Value} (h : Blk w g t cs) (i : Nat) (hi : i < cs.size) : ∃ v, w.cell? ⟨g, i, none⟩ = some v := ⟨cs[i], by rw [h.cell]; simp [hi]⟩

theorem Blk.new1 (w : World) (o : Obj) (t : TypeId) (cs : Array Value) : Blk ((w.alloc o).alloc (.cells cs t)) (w.heap.size + 1) t cs := by
  have := Blk.new (w.alloc o) t cs
  rwa [World.size_alloc] at this
/-- The signs, as the program's constant has them. -/
def SB : ByteArray := ⟨#[44, 59, 58, 40, 41, 123, 125, 91, 93, 61, 43, 45, 42, 47, 60, 62, 46]⟩
theorem sb_ascii (n : Nat) (h : n < 17) : (SB[n]'h).toNat < 128 := by
  have : ∀ n, (h : n < 17) → (SB[n]'h).toNat < 128 := by decide +kernel
  exact this n h
theorem sb_sigs (n : Nat) (h : n < 17) : (SB[n]'h).toNat = (sigs.getD n 0).toNat := by
  have : ∀ n, (h : n < 17) → (SB[n]'h).toNat = (sigs.getD n 0).toNat := by decide +kernel
  exact this n h
noncomputable def T0 : Array Value := Tryd.zeroCells42
noncomputable def T1 : Array Value := putN 0 false 27 0 T0 256
noncomputable def T2 : Array Value := putN 0 false 28 97 T1 26
noncomputable def T3 : Array Value := putN 1 false 29 48 T2 10
noncomputable def putS : Nat → Array Value
  | 0 => T3
  | n + 1 => put3 (putS n) ((sigs.getD n 0).toNat) 2 false 30
noncomputable def T5 : Array Value := put3 (putS 17) 32 0 true 30
theorem size_T0 : T0.size = 768 := by kernel_rfl
theorem size_T1 : T1.size = 768 := by rw [T1, size_putN, size_T0]
theorem size_T2 : T2.size = 768 := by rw [T2, size_putN, size_T1]
theorem size_T3 : T3.size = 768 := by rw [T3, size_putN, size_T2]
theorem size_putS (n : Nat) : (putS n).size = 768 := by
  induction n with
  | zero => exact size_T3
  | succ n ih => rw [putS, size_put3, ih]
theorem size_T5 : T5.size = 768 := by rw [T5, size_put3, size_putS]

def AllOne (cs : Array Value) : Prop := ∀ (i : Nat) (v : Value), cs[i]? = some v → v.oneCell' = true
theorem AllOne.set_ {cs : Array Value} (h : AllOne cs) (i : Nat) (u : Value) (hu : u.oneCell' = true) : AllOne (cs.setIfInBounds i u) := by
  intro j v hv
  rw [Array.getElem?_setIfInBounds] at hv
  split at hv
  · split at hv
    · cases hv; exact hu
    · cases hv
  · exact h j v hv
theorem AllOne.put3 {cs : Array Value} (h : AllOne cs) (k : Nat) (kind : Int) (blank : Bool) (f : Nat) : AllOne (put3 cs k kind blank f) := ((h.set_ _ _ rfl).set_ _ _ rfl).set_ _ _ rfl
theorem AllOne.putN {cs : Array Value} (h : AllOne cs) (kind : Int) (blank : Bool) (f base n : Nat) : AllOne (putN kind blank f base cs n) := by
  induction n with
  | zero => exact h
  | succ n ih => exact ih.put3 _ _ _ _
theorem T0_one : AllOne T0 := by
  have h : T0.all (·.oneCell') = true := by kernel_rfl
  intro i v hv
  exact Array.all_eq_true_iff_forall_mem.1 h v (Array.mem_of_getElem? hv)
theorem putS_one (n : Nat) : AllOne (putS n) := by
  induction n with
  | zero => exact ((T0_one.putN _ _ _ _ _).putN _ _ _ _ _).putN _ _ _ _ _
  | succ n ih => exact ih.put3 _ _ _ _
theorem T5_one : T5.all (·.oneCell') = true := by
  rw [Array.all_eq_true_iff_forall_mem]
  intro v hv
  obtain ⟨i, hi⟩ := Array.getElem?_of_mem hv
  exact (putS_one 17).put3 _ _ _ _ i v hi

set_option maxHeartbeats 3200000 in
set_option maxRecDepth 100000 in
theorem classes_any (w : World) :
    Calls Tryd.prog 12 #[] w (fun e w' => e = .returned (.agg T5) ∧ Below w.heap.size w w') := by
  go_enter Tryd.func12, Tryd.ntmps12
  go_wp2
  go_loopw [7] (fun v wr => ∃ i : Nat, 0 ≤ i ∧ i ≤ 256 ∧ v = .int .i64 i ∧ Blk wr (w.heap.size + 1) 42 (putN 0 false 27 0 T0 (i - 0)) ∧ Blk wr w.heap.size 42 T0 ∧ Below w.heap.size w wr ∧ w.heap.size + 2 = wr.heap.size) (fun v _ => 256 - (intOf v).toNat)
  case atStart => exact ⟨0, by omega, by omega, rfl, by exact Blk.new1 w _ 42 T0, by exact (Blk.new w 42 T0).alloc _, ((Below.refl _ _).alloc (Nat.le_refl _) _).alloc (by simp) _, by simp⟩
  case round =>
    obtain ⟨i, hi0, hi1, rfl, hB, hZ, hb, hz⟩ := hrel
    by_cases hlt : i < 256
    · have hj1 : (i : Int) ≤ 255 := by omega
      have hj2 : 0 ≤ (i : Int) := by omega
      have hd : decide ((i : Int) < 256) = true := decide_eq_true (by omega)
      have hsz := (size_putN 0 false 27 0 T0 (i - 0)).trans size_T0
      obtain ⟨v0, c0⟩ := cells3 hB (i * 3) (by omega)
      obtain ⟨v1, c1⟩ := cells3 hB (i * 3 + 1) (by omega)
      obtain ⟨v2, c2⟩ := cells3 hB (i * 3 + 2) (by omega)
      have f0 : wr.frozen? ⟨w.heap.size + 1, i * 3, none⟩ = false := hB.frozen _
      have f1 : wr.frozen? ⟨w.heap.size + 1, i * 3 + 1, none⟩ = false := hB.frozen _
      have f2 : wr.frozen? ⟨w.heap.size + 1, i * 3 + 2, none⟩ = false := hB.frozen _
      have hB1 := Lib.hid (hB.put3 i 0 false 27)
      have hZ1 := Lib.hid hZ
      have hb1 := Lib.hid hb
      have hz1 := Lib.hid hz
      have hE : Hid (putN 0 false 27 0 T0 (i + 1 - 0) = put3 (putN 0 false 27 0 T0 (i - 0)) i 0 false 27) := by
        rw [show i + 1 - 0 = (i - 0) + 1 from by omega, putN, show 0 + (i - 0) = i from by omega]
        exact Lib.hid rfl
      clear hB hZ hb hsz hz
      go_wp2
      go_roundw
      case rel => exact ⟨i + 1, by omega, by omega, by go_num, by rw [hE.out]; exact hB1.out, far3 hZ1.out (by omega) _ _ _ _ _ _, below3 hb1.out (by omega) _ _ _ _ _ _, by simpa [World.setCell] using hz1.out⟩
      case measure => simp [intOf]; omega
    · obtain rfl : i = 256 := by omega
      clear hi0 hi1 hlt
      have HB : Hid (Blk wr (w.heap.size + 1) 42 T1) := hB
      have HZ := Lib.hid hZ
      have Hb := Lib.hid hb
      have Hz := Lib.hid hz
      clear hB hZ hb hz
      go_wp2
      obtain ⟨wa, rfl⟩ : ∃ wa : World, wa = wr := ⟨_, rfl⟩
      go_loopw [3] (fun v wr => ∃ i : Nat, 97 ≤ i ∧ i ≤ 123 ∧ v = .int .i32 i ∧ Blk wr (w.heap.size + 1) 42 (putN 0 false 28 97 T1 (i - 97)) ∧ Blk wr w.heap.size 42 T0 ∧ Below w.heap.size w wr ∧ w.heap.size + 2 = wr.heap.size) (fun v _ => 123 - (intOf v).toNat)
      case atStart => exact ⟨97, by omega, by omega, rfl, HB.out, HZ.out, Hb.out, Hz.out⟩
      case round =>
        obtain ⟨i, hi0, hi1, rfl, hB, hZ, hb, hz⟩ := hrel
        by_cases hlt : i < 123
        · have hj1 : (i : Int) ≤ 122 := by omega
          have hj2 : 97 ≤ (i : Int) := by omega
          have hd : decide ((i : Int) < 256) = true := decide_eq_true (by omega)
          have hsz := (size_putN 0 false 28 97 T1 (i - 97)).trans size_T1
          obtain ⟨v0, c0⟩ := cells3 hB (i * 3) (by omega)
          obtain ⟨v1, c1⟩ := cells3 hB (i * 3 + 1) (by omega)
          obtain ⟨v2, c2⟩ := cells3 hB (i * 3 + 2) (by omega)
          have f0 : wr.frozen? ⟨w.heap.size + 1, i * 3, none⟩ = false := hB.frozen _
          have f1 : wr.frozen? ⟨w.heap.size + 1, i * 3 + 1, none⟩ = false := hB.frozen _
          have f2 : wr.frozen? ⟨w.heap.size + 1, i * 3 + 2, none⟩ = false := hB.frozen _
          have hB1 := Lib.hid (hB.put3 i 0 false 28)
          have hZ1 := Lib.hid hZ
          have hb1 := Lib.hid hb
          have hz1 := Lib.hid hz
          have hE : Hid (putN 0 false 28 97 T1 (i + 1 - 97) = put3 (putN 0 false 28 97 T1 (i - 97)) i 0 false 28) := by
            rw [show i + 1 - 97 = (i - 97) + 1 from by omega, putN, show 97 + (i - 97) = i from by omega]
            exact Lib.hid rfl
          clear hB hZ hb hsz hz
          go_wp2
          go_roundw
          case rel => exact ⟨i + 1, by omega, by omega, by go_num, by rw [hE.out]; exact hB1.out, far3 hZ1.out (by omega) _ _ _ _ _ _, below3 hb1.out (by omega) _ _ _ _ _ _, by simpa [World.setCell] using hz1.out⟩
          case measure => simp [intOf]; omega
        · obtain rfl : i = 123 := by omega
          clear hi0 hi1 hlt
          have HB : Hid (Blk wr (w.heap.size + 1) 42 T2) := hB
          have HZ := Lib.hid hZ
          have Hb := Lib.hid hb
          have Hz := Lib.hid hz
          clear hB hZ hb hz
          go_wp2
          obtain ⟨wb, rfl⟩ : ∃ wb : World, wb = wr := ⟨_, rfl⟩
          go_loopw [4] (fun v wr => ∃ i : Nat, 48 ≤ i ∧ i ≤ 58 ∧ v = .int .i32 i ∧ Blk wr (w.heap.size + 1) 42 (putN 1 false 29 48 T2 (i - 48)) ∧ Blk wr w.heap.size 42 T0 ∧ Below w.heap.size w wr ∧ w.heap.size + 2 = wr.heap.size) (fun v _ => 58 - (intOf v).toNat)
          case atStart => exact ⟨48, by omega, by omega, rfl, HB.out, HZ.out, Hb.out, Hz.out⟩
          case round =>
            obtain ⟨i, hi0, hi1, rfl, hB, hZ, hb, hz⟩ := hrel
            by_cases hlt : i < 58
            · have hj1 : (i : Int) ≤ 57 := by omega
              have hj2 : 48 ≤ (i : Int) := by omega
              have hd : decide ((i : Int) < 256) = true := decide_eq_true (by omega)
              have hsz := (size_putN 1 false 29 48 T2 (i - 48)).trans size_T2
              obtain ⟨v0, c0⟩ := cells3 hB (i * 3) (by omega)
              obtain ⟨v1, c1⟩ := cells3 hB (i * 3 + 1) (by omega)
              obtain ⟨v2, c2⟩ := cells3 hB (i * 3 + 2) (by omega)
              have f0 : wr.frozen? ⟨w.heap.size + 1, i * 3, none⟩ = false := hB.frozen _
              have f1 : wr.frozen? ⟨w.heap.size + 1, i * 3 + 1, none⟩ = false := hB.frozen _
              have f2 : wr.frozen? ⟨w.heap.size + 1, i * 3 + 2, none⟩ = false := hB.frozen _
              have hB1 := Lib.hid (hB.put3 i 1 false 29)
              have hZ1 := Lib.hid hZ
              have hb1 := Lib.hid hb
              have hz1 := Lib.hid hz
              have hE : Hid (putN 1 false 29 48 T2 (i + 1 - 48) = put3 (putN 1 false 29 48 T2 (i - 48)) i 1 false 29) := by
                rw [show i + 1 - 48 = (i - 48) + 1 from by omega, putN, show 48 + (i - 48) = i from by omega]
                exact Lib.hid rfl
              clear hB hZ hb hsz hz
              go_wp2
              go_roundw
              case rel => exact ⟨i + 1, by omega, by omega, by go_num, by rw [hE.out]; exact hB1.out, far3 hZ1.out (by omega) _ _ _ _ _ _, below3 hb1.out (by omega) _ _ _ _ _ _, by simpa [World.setCell] using hz1.out⟩
              case measure => simp [intOf]; omega
            · obtain rfl : i = 58 := by omega
              clear hi0 hi1 hlt
              have HB : Hid (Blk wr (w.heap.size + 1) 42 T3) := hB
              have HZ := Lib.hid hZ
              have Hb := Lib.hid hb
              have Hz := Lib.hid hz
              clear hB hZ hb hz
              go_wp2
              obtain ⟨wc, rfl⟩ : ∃ wc : World, wc = wr := ⟨_, rfl⟩
              have HN : w.heap.size + 1 < wc.heap.size := by have := Hz.out; omega
              go_loopw [] (fun wr => ∃ n : Nat, n ≤ 17 ∧ wr.heap[wc.heap.size]? = some (.stringIter SB n) ∧ Blk wr (w.heap.size + 1) 42 (putS n) ∧ Blk wr w.heap.size 42 T0 ∧ Below w.heap.size w wr) (fun wr => 17 - wr.iterPos (wc.heap.size))
              case atStart =>
                have h1 := World.iter_heap wc SB 0
                exact ⟨0, by omega, h1, HB.out.alloc _, HZ.out.alloc _, Hb.out.alloc (by omega) _⟩
              case round =>
                obtain ⟨n, hn, hit, hB, hZ, hb⟩ := hrel
                have hbs : wc.heap.size < wr.heap.size := (Array.getElem?_eq_some_iff.1 hit).1
                by_cases hlt : n < 17
                · have hp : n < SB.size := hlt
                  have ha : (SB[n]'hp).toNat < 128 := sb_ascii n hlt
                  have hnx : ∀ ty, (Instr.next (.pointer (some ⟨wc.heap.size, 0, none⟩)) true ty).run Tryd.prog wr = _ := fun ty => Lib.run_next_ascii_at wr (wc.heap.size) SB n ty hit hp ha
                  obtain ⟨i, hi⟩ : ∃ i : Nat, i = (SB[n]'hp).toNat := ⟨_, rfl⟩
                  have hpv : i = (sigs.getD n 0).toNat := by rw [hi]; exact sb_sigs n hlt
                  rw [← hi] at hnx ha
                  clear hi
                  have hj1 : (i : Int) < 128 := by omega
                  have hd : decide ((i : Int) < 256) = true := decide_eq_true (by omega)
                  have hsz := size_putS n
                  have hit2 := Lib.iterAt_heap wr (wc.heap.size) SB n (n + 1) hit
                  have hB2 : Blk (wr.iterAt (wc.heap.size) SB (n + 1)) (w.heap.size + 1) 42 (putS n) := (Lib.iterAt_other wr (wc.heap.size) (w.heap.size + 1) SB (n + 1) (by omega)).trans hB
                  have hZ2 : Blk (wr.iterAt (wc.heap.size) SB (n + 1)) w.heap.size 42 T0 := (Lib.iterAt_other wr (wc.heap.size) w.heap.size SB (n + 1) (by omega)).trans hZ
                  have hb2 := Lib.below_iterAt hb (k := wc.heap.size) (by omega) SB (n + 1)
                  generalize wr.iterAt (wc.heap.size) SB (n + 1) = wn at *
                  obtain ⟨v0, c0⟩ := cells3 hB2 (i * 3) (by omega)
                  obtain ⟨v1, c1⟩ := cells3 hB2 (i * 3 + 1) (by omega)
                  obtain ⟨v2, c2⟩ := cells3 hB2 (i * 3 + 2) (by omega)
                  have f0 : wn.frozen? ⟨w.heap.size + 1, i * 3, none⟩ = false := hB2.frozen _
                  have f1 : wn.frozen? ⟨w.heap.size + 1, i * 3 + 1, none⟩ = false := hB2.frozen _
                  have f2 : wn.frozen? ⟨w.heap.size + 1, i * 3 + 2, none⟩ = false := hB2.frozen _
                  have hB1 := Lib.hid (hB2.put3 i 2 false 30)
                  have hZ1 := Lib.hid hZ2
                  have hb1 := Lib.hid hb2
                  have hz1 := Lib.hid hit2
                  have hz0 := Lib.hid hit
                  have hE : Hid (putS (n + 1) = put3 (putS n) i 2 false 30) := by
                    rw [putS, ← hpv]
                    exact Lib.hid rfl
                  clear hB hZ hb hsz hB2 hZ2 hb2 hit hit2 hpv ha
                  go_wp2
                  go_roundw
                  case rel =>
                    refine ⟨n + 1, by omega, ?_, by rw [hE.out]; exact hB1.out, far3 hZ1.out (by omega) _ _ _ _ _ _, below3 hb1.out (by omega) _ _ _ _ _ _⟩
                    exact ((Below.heap_setCell _ _ _ _ (by simp; omega)).trans ((Below.heap_setCell _ _ _ _ (by simp; omega)).trans (Below.heap_setCell _ _ _ _ (by simp; omega)))).trans hz1.out
                  case measure =>
                    have q1 := hz0.out
                    have q2 : ((((wn.setCell ⟨w.heap.size + 1, i * 3, none⟩ (.int .i64 2)).setCell ⟨w.heap.size + 1, i * 3 + 1, none⟩ (.bool false)).setCell ⟨w.heap.size + 1, i * 3 + 2, none⟩ (.func (.func 30) #[] #[])).heap[wc.heap.size]?) = some (.stringIter SB (n + 1)) := ((Below.heap_setCell _ _ _ _ (by simp; omega)).trans ((Below.heap_setCell _ _ _ _ (by simp; omega)).trans (Below.heap_setCell _ _ _ _ (by simp; omega)))).trans hz1.out
                    simp only [World.iterPos, q1, q2]
                    omega
                · obtain rfl : n = 17 := by omega
                  have hnx : ∀ ty, (Instr.next (.pointer (some ⟨wc.heap.size, 0, none⟩)) true ty).run Tryd.prog wr = _ := fun ty => Lib.run_next_end_at wr (wc.heap.size) SB 17 ty hit (by decide)
                  clear hn hlt
                  have hsz := size_putS 17
                  obtain ⟨v0, c0⟩ := cells3 hB 96 (by omega)
                  obtain ⟨v1, c1⟩ := cells3 hB 97 (by omega)
                  obtain ⟨v2, c2⟩ := cells3 hB 98 (by omega)
                  have f0 : wr.frozen? ⟨w.heap.size + 1, 96, none⟩ = false := hB.frozen _
                  have f1 : wr.frozen? ⟨w.heap.size + 1, 97, none⟩ = false := hB.frozen _
                  have f2 : wr.frozen? ⟨w.heap.size + 1, 98, none⟩ = false := hB.frozen _
                  have hB1 := hB.put3 32 0 true 30
                  have hZ1 := far3 (g := w.heap.size + 1) hZ (by omega) (32 * 3) (32 * 3 + 1) (32 * 3 + 2) (.int .i64 0) (.bool true) (.func (.func 30) #[] #[])
                  have hb1 := below3 (g := w.heap.size + 1) hb (by omega) (32 * 3) (32 * 3 + 1) (32 * 3 + 2) (.int .i64 0) (.bool true) (.func (.func 30) #[] #[])
                  have HB5 := Lib.hid hB1
                  have HZ5 := Lib.hid hZ1
                  have Hb5 := Lib.hid hb1
                  clear hB hZ hb hB1 hZ1 hb1 hsz
                  have hi : (Tryd.prog.info? 42).map (·.size) = some T5.size := by rw [size_T5]; kernel_rfl
                  have H5 : Blk (((wr.setCell ⟨w.heap.size + 1, 96, none⟩ (.int .i64 0)).setCell ⟨w.heap.size + 1, 97, none⟩ (.bool true)).setCell ⟨w.heap.size + 1, 98, none⟩ (.func (.func 30) #[] #[])) (w.heap.size + 1) 42 T5 := HB5.out
                  have Z5 : Blk (((wr.setCell ⟨w.heap.size + 1, 96, none⟩ (.int .i64 0)).setCell ⟨w.heap.size + 1, 97, none⟩ (.bool true)).setCell ⟨w.heap.size + 1, 98, none⟩ (.func (.func 30) #[] #[])) w.heap.size 42 T0 := HZ5.out
                  have B5 : Below w.heap.size w (((wr.setCell ⟨w.heap.size + 1, 96, none⟩ (.int .i64 0)).setCell ⟨w.heap.size + 1, 97, none⟩ (.bool true)).setCell ⟨w.heap.size + 1, 98, none⟩ (.func (.func 30) #[] #[])) := Hb5.out
                  have G5 := Lib.hid H5
                  have G6 := Lib.hid Z5
                  have G7 := Lib.hid B5
                  have Hi := Lib.hid hi
                  clear H5 Z5 B5 hi HB5 HZ5 Hb5
                  go_wp2_with (first | (refine wpList_load_row rfl 42 (.tmp 1) rfl (w.heap.size + 1) rfl 42 T5 (0, 0) _ G5.out Tryd.underlying42 rfl Hi.out ?_) | (refine wpList_store_row rfl 42 (.tmp 0) (.tmp 37) rfl w.heap.size T5 rfl rfl 42 T0 G6.out Hi.out (by rw [size_T0, size_T5]) T5_one ?_))
                  refine bodyPost_ret (v := .agg T5) (results_cell_row rfl _ _ w.heap.size 42 T5 (0, 0) _ rfl (setRow_heap _ _ _ _ _ _ G6.out) Tryd.underlying42 rfl Hi.out) rfl ⟨rfl, ?_⟩
                  exact below_setRow G7.out (Nat.le_refl _) _
end Go.Proofs.YtffcahhnaomegaaDoor
