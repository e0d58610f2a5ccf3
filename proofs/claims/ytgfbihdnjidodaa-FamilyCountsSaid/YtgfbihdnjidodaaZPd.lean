/- The reference: every kind's vertices, its errors. -/
import Derived.Test.YtgfbihdnjidodaaZPc
namespace Go.Proofs.Ytgfbihdnjidodaa
open Go.RowKit Go.Shelf Go.Proofs.Gr
attribute [local go_sem] Oper.semAt_some

theorem rvert_all (kind : Nat) (hk : kind ≤ 8) (a : Option Addr) (cap : Nat) (L : List Int) (hll : L.length = sizK kind) (hlo : ∀ x ∈ L, 1 ≤ x) (w : World) (h : IsAt w a L) : Calls Try.prog 31 #[.int .i64 (kind : Nat), .slice a L.length cap] w (fun e x => e = .returned (.int .i64 (vertK kind L)) ∧ Below w.heap.size w x) := by
  have hcases : kind = 0 ∨ kind = 1 ∨ kind = 2 ∨ kind = 3 ∨ kind = 4 ∨ kind = 5 ∨ kind = 6 ∨ kind = 7 ∨ kind = 8 := by omega
  rcases hcases with rfl | rfl | rfl | rfl | rfl | rfl | rfl | rfl | rfl
  · exact rvert_0 a cap L hll hlo w h
  · exact rvert_1 a cap L hll hlo w h
  · exact rvert_2 a cap L hll hlo w h
  · exact rvert_3 a cap L hll hlo w h
  · exact rvert_4 a cap L hll hlo w h
  · exact rvert_5 a cap L hll hlo w h
  · exact rvert_6 a cap L hll hlo w h
  · exact rvert_7 a cap L hll hlo w h
  · exact rvert_8 a cap L hll hlo w h
theorem szI_of (kind : Nat) (hk : kind ≤ 8) : szI (kind : Nat) = (sizK kind : Nat) ∧ szE (kind : Nat) = 0 := by
  have hcases : kind = 0 ∨ kind = 1 ∨ kind = 2 ∨ kind = 3 ∨ kind = 4 ∨ kind = 5 ∨ kind = 6 ∨ kind = 7 ∨ kind = 8 := by omega
  rcases hcases with rfl | rfl | rfl | rfl | rfl | rfl | rfl | rfl | rfl <;> decide
theorem rsizes_ok (kind : Nat) (hk : kind ≤ 8) (w : World) : Calls Try.prog 11 #[.int .i64 (kind : Nat)] w (fun e x => e = .returned (.tuple #[.int .i64 (sizK kind : Nat), .int .i64 0]) ∧ Below w.heap.size w x) := by
  refine (rsizes_any (kind : Nat) w).mono ?_
  rintro e x ⟨h1, h2⟩
  rw [(szI_of kind hk).1, (szI_of kind hk).2] at h1
  exact ⟨h1, h2⟩
theorem rsizes_bad (z : Int) (hz : z < 0 ∨ 8 < z) (w : World) : Calls Try.prog 11 #[.int .i64 z] w (fun e x => e = .returned (.tuple #[.int .i64 0, .int .i64 1]) ∧ Below w.heap.size w x) := by
  refine (rsizes_any z w).mono ?_
  rintro e x ⟨h1, h2⟩
  unfold szI szE at h1
  rw [if_pos hz, if_pos hz] at h1
  exact ⟨h1, h2⟩
set_option maxHeartbeats 12800000 in
set_option maxRecDepth 100000 in
theorem rgiven_any (kind : Nat) (hk : kind ≤ 8) (a : Option Addr) (cap : Nat) (L : List Int) (hL : L.length ≤ 1000000) (w : World) (h : IsAt w a L) : Calls Try.prog 15 #[.int .i64 (kind : Nat), .slice a L.length cap] w (fun e x => e = .returned (.int .i64 (famE kind L : Nat)) ∧ Below w.heap.size w x) := by
  have HK : Hid (famE kind L = if L.length ≠ sizK kind then 8 else if L.any (fun x => decide (x < 1)) = true then 2 else if 12 < vertK kind L then 5 else 0) := Lib.hid rfl
  have HS := Lib.hid (rsizes_ok kind hk)
  have HV := Lib.hid (fun (hll : L.length = sizK kind) (hlo : ∀ x ∈ L, 1 ≤ x) (w : World) (h : IsAt w a L) => rvert_all kind hk a cap L hll hlo w h)
  have HI := Lib.hid h
  generalize sizK kind = n at *
  generalize vertK kind L = V at *
  generalize famE kind L = K at *
  generalize ((kind : Nat) : Int) = z at *
  clear h hk
  by_cases hn : L.length = n
  · obtain rfl : n = L.length := hn.symm
    have hne : (((L.length : Nat) : Int) != (L.length : Int)) = false := by simp
    have HK2 : Hid ((∃ i, i < L.length ∧ iAt L i < 1) → K = 2) := Lib.hid (by
      rintro ⟨i, h1, h2⟩
      rw [HK.out, if_neg (by simp), if_pos (any_at L _ i h1 (by simpa using h2))])
    have HK5 : Hid ((∀ j, j < L.length → 1 ≤ iAt L j) → 12 < V → K = 5) := Lib.hid (by
      intro h0 h1
      rw [HK.out, if_neg (by simp), any_no L (fun x => decide (x < 1)) (fun j hj => by have := h0 j hj; simp; omega), if_neg (by simp), if_pos h1])
    have HK0 : Hid ((∀ j, j < L.length → 1 ≤ iAt L j) → ¬ 12 < V → K = 0) := Lib.hid (by
      intro h0 h1
      rw [HK.out, if_neg (by simp), any_no L (fun x => decide (x < 1)) (fun j hj => by have := h0 j hj; simp; omega), if_neg (by simp), if_neg h1])
    clear HK hn
    have HVV := Lib.hid (fun (h0 : ∀ j, j < L.length → 1 ≤ iAt L j) => HV.out rfl (fun x hx => by obtain ⟨j, hj, rfl⟩ := List.getElem_of_mem hx; rw [iAt_get L j hj]; exact h0 j hj))
    clear HV
    go_enter Try.func15, Try.ntmps15
    go_wp2_with fail
    refine (HS.out _).mono ?_
    rintro e x0 ⟨rfl, hb0⟩
    have HB0 := Lib.hid hb0
    clear hb0
    go_wp2
    go_loopw [7] (fun x wr => ∃ i : Nat, i ≤ L.length ∧ x = .int .i64 i ∧ (∀ j, j < i → 1 ≤ iAt L j) ∧ Below w.heap.size w wr) (fun x _ => L.length - (intOf x).toNat)
    case atStart => exact ⟨0, by omega, rfl, fun j hj => by omega, HB0.out⟩
    case round =>
      obtain ⟨i, hi, rfl, hz, hb⟩ := hrel
      by_cases hlt : i < L.length
      · have i1 : (i : Int) < (L.length : Int) := by omega
        have i2 : (0 : Int) ≤ (i : Int) := by omega
        obtain ⟨bb, oo, ea, q1, x1⟩ := (HI.out.keep hb).one i hlt
        subst ea
        have HBW := Lib.hid hb
        obtain ⟨z, hz1⟩ : ∃ z, z = iAt L i := ⟨_, rfl⟩
        rw [← hz1] at x1
        by_cases hlow : z < 1
        · have HR : Hid (K = 2) := Lib.hid (HK2.out ⟨i, hlt, by rw [← hz1]; exact hlow⟩)
          clear hz hz1 hb
          go_wp2
          go_ret
          exact ⟨by rw [HR.out]; rfl, HBW.out⟩
        · have HZ : Hid (∀ j, j < i + 1 → 1 ≤ iAt L j) := Lib.hid fun j hj => by
            by_cases e : j = i
            · subst e; rw [← hz1]; omega
            · exact hz j (by omega)
          clear hz hz1 hb
          go_wp2
          go_roundw
          case rel => exact ⟨i + 1, by omega, by go_num, HZ.out, HBW.out⟩
          case measure => simp [intOf]; omega
      · obtain rfl : i = L.length := by omega
        have i1 : ¬ (L.length : Int) < (L.length : Int) := by omega
        have HZ := Lib.hid hz
        have HBW := Lib.hid hb
        have HC := Lib.hid (HVV.out hz _ (HI.out.keep hb))
        clear hz hb
        go_wp2_with fail
        refine HC.out.mono ?_
        rintro e x2 ⟨rfl, hb2⟩
        have HB2 := Lib.hid (HBW.out.trans (hb2.mono HBW.out.size))
        clear hb2
        by_cases hv : 12 < V
        · have HR : Hid (K = 5) := Lib.hid (HK5.out HZ.out hv)
          go_wp2
          go_ret
          exact ⟨by rw [HR.out]; rfl, HB2.out⟩
        · have HR : Hid (K = 0) := Lib.hid (HK0.out HZ.out (by omega))
          go_wp2
          go_ret
          exact ⟨by rw [HR.out]; rfl, HB2.out⟩
  · have hne : (((L.length : Nat) : Int) != (n : Int)) = true := by rw [bne_iff_ne]; omega
    have HR : Hid (K = 8) := Lib.hid (by rw [HK.out, if_pos hn])
    clear HK HV hn
    go_enter Try.func15, Try.ntmps15
    go_wp2_with fail
    refine (HS.out _).mono ?_
    rintro e x0 ⟨rfl, hb0⟩
    have HB0 := Lib.hid hb0
    clear hb0
    go_wp2
    go_ret
    exact ⟨by rw [HR.out]; rfl, HB0.out⟩
set_option maxHeartbeats 12800000 in
set_option maxRecDepth 100000 in
theorem rgiven_bad (z : Int) (hz : z < 0 ∨ 8 < z) (a : Option Addr) (cap l : Nat) (w : World) : Calls Try.prog 15 #[.int .i64 z, .slice a l cap] w (fun e x => e = .returned (.int .i64 1) ∧ Below w.heap.size w x) := by
  have HS := Lib.hid (rsizes_bad z hz)
  clear hz
  go_enter Try.func15, Try.ntmps15
  go_wp2_with fail
  refine (HS.out _).mono ?_
  rintro e x0 ⟨rfl, hb0⟩
  have HB0 := Lib.hid hb0
  clear hb0
  go_wp2
  go_ret
  exact ⟨rfl, HB0.out⟩
end Go.Proofs.Ytgfbihdnjidodaa
