/- The reference: how many vertices, by kind. -/
import Derived.Test.YtgfbihdnjidodaaZPa
import Derived.RegionTactic
namespace Go.Proofs.Ytgfbihdnjidodaa
open Go.RowKit Go.Shelf Go.Proofs.Gr
attribute [local go_sem] Oper.semAt_some

set_option maxHeartbeats 12800000 in
set_option maxRecDepth 100000 in
theorem rvert_0 (a : Option Addr) (cap : Nat) (L : List Int) (hll : L.length = 1) (hlo : ∀ x ∈ L, 1 ≤ x) (w : World) (h : IsAt w a L) : Calls Try.prog 31 #[.int .i64 0, .slice a L.length cap] w (fun e x => e = .returned (.int .i64 (vertK 0 L)) ∧ Below w.heap.size w x) := by
  have HA : Hid (∀ i, i < L.length → 13 < iAt L i → vertK 0 L = 13) := Lib.hid (fun i h1 h2 => by unfold vertK; rw [if_neg (by decide), if_pos (any_at L _ i h1 (by simpa using h2))])
  have HC : Hid ((∀ j, j < L.length → iAt L j ≤ 13) → vertK 0 L = iAt L 0) := Lib.hid (fun hh => by
    unfold vertK
    rw [if_neg (by decide), any_no L (fun x => decide (13 < x)) (fun j hj => by have := hh j hj; simp; omega)]
    simp)
  have HLO : Hid (∀ j, j < L.length → 1 ≤ iAt L j) := Lib.hid (fun j hj => by have := hlo _ (List.getElem_mem hj); rw [iAt_get L j hj] at this; exact this)
  generalize vertK 0 L = V at *
  have HI := Lib.hid h
  have hne : ¬ L = [] := by intro h; rw [h] at hll; simp at hll
  have HLN := Lib.hid hll
  have hl9 : L.length ≤ 10 := by omega
  clear h hlo hll
  go_enter Try.func31, Try.ntmps31
  go_wp2
  go_loopw [6] (fun x wr => ∃ i : Nat, i ≤ L.length ∧ x = .int .i64 i ∧ (∀ j, j < i → iAt L j ≤ 13) ∧ Below w.heap.size w wr) (fun x _ => L.length - (intOf x).toNat)
  case atStart => exact ⟨0, by omega, rfl, fun j hj => by omega, Below.refl _ _⟩
  case round =>
    obtain ⟨i, hi, rfl, hz, hb⟩ := hrel
    by_cases hlt : i < L.length
    · have i1 : (i : Int) < (L.length : Int) := by omega
      have i2 : (0 : Int) ≤ (i : Int) := by omega
      obtain ⟨bb, oo, ea, q1, x1⟩ := (HI.out.keep hb).one i hlt
      subst ea
      have HBW := Lib.hid hb
      obtain ⟨z, hz1⟩ : ∃ z, z = iAt L i := ⟨_, rfl⟩
      rw [← hz1] at x1
      by_cases hgt : 13 < z
      · have HR := Lib.hid (HA.out i hlt (by rw [← hz1]; exact hgt))
        clear hz hz1 hb
        go_wp2
        go_ret
        exact ⟨by rw [HR.out]; rfl, HBW.out⟩
      · have HZ : Hid (∀ j, j < i + 1 → iAt L j ≤ 13) := Lib.hid fun j hj => by
          by_cases e : j = i
          · subst e; rw [← hz1]; omega
          · exact hz j (by omega)
        clear hz hz1 hb
        go_wp2
        go_roundw
        case rel => exact ⟨i + 1, by omega, by go_num, HZ.out, HBW.out⟩
        case measure => simp [intOf]; omega
    · obtain rfl : i = L.length := by omega
      have i1 : ¬ (L.length : Int) < (L.length : Int) := by omega
      have hll := HLN.out
      have hv := HC.out hz
      have hIw := HI.out.keep hb
      have HBW := Lib.hid hb
      obtain ⟨b0, o0, ea0, q0, x0⟩ := hIw.one 0 (by omega)
      rw [Nat.add_zero] at x0
      subst ea0
      have hln0 : (0 : Int) < (L.length : Int) := by omega
      obtain ⟨z0, hz0⟩ : ∃ z, z = iAt L 0 := ⟨_, rfl⟩
      have hr0 : 1 ≤ z0 ∧ z0 ≤ 13 := by rw [hz0]; exact ⟨HLO.out 0 (by omega), hz 0 (by omega)⟩
      rw [← hz0] at x0
      have HV : Hid (V = z0) := Lib.hid (by rw [hv]; simp only [hz0])
      clear hz hb hIw hv hll hz0
      go_wp2
      skip
      skip
      go_ret
      exact ⟨by rw [HV.out]; first | rfl | (go_num; rfl) | go_num, HBW.out⟩
set_option maxHeartbeats 12800000 in
set_option maxRecDepth 100000 in
theorem rvert_1 (a : Option Addr) (cap : Nat) (L : List Int) (hll : L.length = 1) (hlo : ∀ x ∈ L, 1 ≤ x) (w : World) (h : IsAt w a L) : Calls Try.prog 31 #[.int .i64 1, .slice a L.length cap] w (fun e x => e = .returned (.int .i64 (vertK 1 L)) ∧ Below w.heap.size w x) := by
  have HA : Hid (∀ i, i < L.length → 13 < iAt L i → vertK 1 L = 13) := Lib.hid (fun i h1 h2 => by unfold vertK; rw [if_neg (by decide), if_pos (any_at L _ i h1 (by simpa using h2))])
  have HC : Hid ((∀ j, j < L.length → iAt L j ≤ 13) → vertK 1 L = iAt L 0) := Lib.hid (fun hh => by
    unfold vertK
    rw [if_neg (by decide), any_no L (fun x => decide (13 < x)) (fun j hj => by have := hh j hj; simp; omega)]
    simp)
  have HLO : Hid (∀ j, j < L.length → 1 ≤ iAt L j) := Lib.hid (fun j hj => by have := hlo _ (List.getElem_mem hj); rw [iAt_get L j hj] at this; exact this)
  generalize vertK 1 L = V at *
  have HI := Lib.hid h
  have hne : ¬ L = [] := by intro h; rw [h] at hll; simp at hll
  have HLN := Lib.hid hll
  have hl9 : L.length ≤ 10 := by omega
  clear h hlo hll
  go_enter Try.func31, Try.ntmps31
  go_wp2
  go_loopw [6] (fun x wr => ∃ i : Nat, i ≤ L.length ∧ x = .int .i64 i ∧ (∀ j, j < i → iAt L j ≤ 13) ∧ Below w.heap.size w wr) (fun x _ => L.length - (intOf x).toNat)
  case atStart => exact ⟨0, by omega, rfl, fun j hj => by omega, Below.refl _ _⟩
  case round =>
    obtain ⟨i, hi, rfl, hz, hb⟩ := hrel
    by_cases hlt : i < L.length
    · have i1 : (i : Int) < (L.length : Int) := by omega
      have i2 : (0 : Int) ≤ (i : Int) := by omega
      obtain ⟨bb, oo, ea, q1, x1⟩ := (HI.out.keep hb).one i hlt
      subst ea
      have HBW := Lib.hid hb
      obtain ⟨z, hz1⟩ : ∃ z, z = iAt L i := ⟨_, rfl⟩
      rw [← hz1] at x1
      by_cases hgt : 13 < z
      · have HR := Lib.hid (HA.out i hlt (by rw [← hz1]; exact hgt))
        clear hz hz1 hb
        go_wp2
        go_ret
        exact ⟨by rw [HR.out]; rfl, HBW.out⟩
      · have HZ : Hid (∀ j, j < i + 1 → iAt L j ≤ 13) := Lib.hid fun j hj => by
          by_cases e : j = i
          · subst e; rw [← hz1]; omega
          · exact hz j (by omega)
        clear hz hz1 hb
        go_wp2
        go_roundw
        case rel => exact ⟨i + 1, by omega, by go_num, HZ.out, HBW.out⟩
        case measure => simp [intOf]; omega
    · obtain rfl : i = L.length := by omega
      have i1 : ¬ (L.length : Int) < (L.length : Int) := by omega
      have hll := HLN.out
      have hv := HC.out hz
      have hIw := HI.out.keep hb
      have HBW := Lib.hid hb
      obtain ⟨b0, o0, ea0, q0, x0⟩ := hIw.one 0 (by omega)
      rw [Nat.add_zero] at x0
      subst ea0
      have hln0 : (0 : Int) < (L.length : Int) := by omega
      obtain ⟨z0, hz0⟩ : ∃ z, z = iAt L 0 := ⟨_, rfl⟩
      have hr0 : 1 ≤ z0 ∧ z0 ≤ 13 := by rw [hz0]; exact ⟨HLO.out 0 (by omega), hz 0 (by omega)⟩
      rw [← hz0] at x0
      have HV : Hid (V = z0) := Lib.hid (by rw [hv]; simp only [hz0])
      clear hz hb hIw hv hll hz0
      go_wp2
      skip
      skip
      go_ret
      exact ⟨by rw [HV.out]; first | rfl | (go_num; rfl) | go_num, HBW.out⟩
set_option maxHeartbeats 12800000 in
set_option maxRecDepth 100000 in
theorem rvert_2 (a : Option Addr) (cap : Nat) (L : List Int) (hll : L.length = 1) (hlo : ∀ x ∈ L, 1 ≤ x) (w : World) (h : IsAt w a L) : Calls Try.prog 31 #[.int .i64 2, .slice a L.length cap] w (fun e x => e = .returned (.int .i64 (vertK 2 L)) ∧ Below w.heap.size w x) := by
  have HA : Hid (∀ i, i < L.length → 13 < iAt L i → vertK 2 L = 13) := Lib.hid (fun i h1 h2 => by unfold vertK; rw [if_neg (by decide), if_pos (any_at L _ i h1 (by simpa using h2))])
  have HC : Hid ((∀ j, j < L.length → iAt L j ≤ 13) → vertK 2 L = iAt L 0 + 1) := Lib.hid (fun hh => by
    unfold vertK
    rw [if_neg (by decide), any_no L (fun x => decide (13 < x)) (fun j hj => by have := hh j hj; simp; omega)]
    simp)
  have HLO : Hid (∀ j, j < L.length → 1 ≤ iAt L j) := Lib.hid (fun j hj => by have := hlo _ (List.getElem_mem hj); rw [iAt_get L j hj] at this; exact this)
  generalize vertK 2 L = V at *
  have HI := Lib.hid h
  have hne : ¬ L = [] := by intro h; rw [h] at hll; simp at hll
  have HLN := Lib.hid hll
  have hl9 : L.length ≤ 10 := by omega
  clear h hlo hll
  go_enter Try.func31, Try.ntmps31
  go_wp2
  go_loopw [6] (fun x wr => ∃ i : Nat, i ≤ L.length ∧ x = .int .i64 i ∧ (∀ j, j < i → iAt L j ≤ 13) ∧ Below w.heap.size w wr) (fun x _ => L.length - (intOf x).toNat)
  case atStart => exact ⟨0, by omega, rfl, fun j hj => by omega, Below.refl _ _⟩
  case round =>
    obtain ⟨i, hi, rfl, hz, hb⟩ := hrel
    by_cases hlt : i < L.length
    · have i1 : (i : Int) < (L.length : Int) := by omega
      have i2 : (0 : Int) ≤ (i : Int) := by omega
      obtain ⟨bb, oo, ea, q1, x1⟩ := (HI.out.keep hb).one i hlt
      subst ea
      have HBW := Lib.hid hb
      obtain ⟨z, hz1⟩ : ∃ z, z = iAt L i := ⟨_, rfl⟩
      rw [← hz1] at x1
      by_cases hgt : 13 < z
      · have HR := Lib.hid (HA.out i hlt (by rw [← hz1]; exact hgt))
        clear hz hz1 hb
        go_wp2
        go_ret
        exact ⟨by rw [HR.out]; rfl, HBW.out⟩
      · have HZ : Hid (∀ j, j < i + 1 → iAt L j ≤ 13) := Lib.hid fun j hj => by
          by_cases e : j = i
          · subst e; rw [← hz1]; omega
          · exact hz j (by omega)
        clear hz hz1 hb
        go_wp2
        go_roundw
        case rel => exact ⟨i + 1, by omega, by go_num, HZ.out, HBW.out⟩
        case measure => simp [intOf]; omega
    · obtain rfl : i = L.length := by omega
      have i1 : ¬ (L.length : Int) < (L.length : Int) := by omega
      have hll := HLN.out
      have hv := HC.out hz
      have hIw := HI.out.keep hb
      have HBW := Lib.hid hb
      obtain ⟨b0, o0, ea0, q0, x0⟩ := hIw.one 0 (by omega)
      rw [Nat.add_zero] at x0
      subst ea0
      have hln0 : (0 : Int) < (L.length : Int) := by omega
      obtain ⟨z0, hz0⟩ : ∃ z, z = iAt L 0 := ⟨_, rfl⟩
      have hr0 : 1 ≤ z0 ∧ z0 ≤ 13 := by rw [hz0]; exact ⟨HLO.out 0 (by omega), hz 0 (by omega)⟩
      rw [← hz0] at x0
      have HV : Hid (V = z0 + 1) := Lib.hid (by rw [hv]; simp only [hz0])
      clear hz hb hIw hv hll hz0
      go_wp2
      skip
      skip
      go_ret
      exact ⟨by rw [HV.out]; first | rfl | (go_num; rfl) | go_num, HBW.out⟩
set_option maxHeartbeats 12800000 in
set_option maxRecDepth 100000 in
theorem rvert_3 (a : Option Addr) (cap : Nat) (L : List Int) (hll : L.length = 1) (hlo : ∀ x ∈ L, 1 ≤ x) (w : World) (h : IsAt w a L) : Calls Try.prog 31 #[.int .i64 3, .slice a L.length cap] w (fun e x => e = .returned (.int .i64 (vertK 3 L)) ∧ Below w.heap.size w x) := by
  have HA : Hid (∀ i, i < L.length → 13 < iAt L i → vertK 3 L = 13) := Lib.hid (fun i h1 h2 => by unfold vertK; rw [if_neg (by decide), if_pos (any_at L _ i h1 (by simpa using h2))])
  have HC : Hid ((∀ j, j < L.length → iAt L j ≤ 13) → vertK 3 L = iAt L 0) := Lib.hid (fun hh => by
    unfold vertK
    rw [if_neg (by decide), any_no L (fun x => decide (13 < x)) (fun j hj => by have := hh j hj; simp; omega)]
    simp)
  have HLO : Hid (∀ j, j < L.length → 1 ≤ iAt L j) := Lib.hid (fun j hj => by have := hlo _ (List.getElem_mem hj); rw [iAt_get L j hj] at this; exact this)
  generalize vertK 3 L = V at *
  have HI := Lib.hid h
  have hne : ¬ L = [] := by intro h; rw [h] at hll; simp at hll
  have HLN := Lib.hid hll
  have hl9 : L.length ≤ 10 := by omega
  clear h hlo hll
  go_enter Try.func31, Try.ntmps31
  go_wp2
  go_loopw [6] (fun x wr => ∃ i : Nat, i ≤ L.length ∧ x = .int .i64 i ∧ (∀ j, j < i → iAt L j ≤ 13) ∧ Below w.heap.size w wr) (fun x _ => L.length - (intOf x).toNat)
  case atStart => exact ⟨0, by omega, rfl, fun j hj => by omega, Below.refl _ _⟩
  case round =>
    obtain ⟨i, hi, rfl, hz, hb⟩ := hrel
    by_cases hlt : i < L.length
    · have i1 : (i : Int) < (L.length : Int) := by omega
      have i2 : (0 : Int) ≤ (i : Int) := by omega
      obtain ⟨bb, oo, ea, q1, x1⟩ := (HI.out.keep hb).one i hlt
      subst ea
      have HBW := Lib.hid hb
      obtain ⟨z, hz1⟩ : ∃ z, z = iAt L i := ⟨_, rfl⟩
      rw [← hz1] at x1
      by_cases hgt : 13 < z
      · have HR := Lib.hid (HA.out i hlt (by rw [← hz1]; exact hgt))
        clear hz hz1 hb
        go_wp2
        go_ret
        exact ⟨by rw [HR.out]; rfl, HBW.out⟩
      · have HZ : Hid (∀ j, j < i + 1 → iAt L j ≤ 13) := Lib.hid fun j hj => by
          by_cases e : j = i
          · subst e; rw [← hz1]; omega
          · exact hz j (by omega)
        clear hz hz1 hb
        go_wp2
        go_roundw
        case rel => exact ⟨i + 1, by omega, by go_num, HZ.out, HBW.out⟩
        case measure => simp [intOf]; omega
    · obtain rfl : i = L.length := by omega
      have i1 : ¬ (L.length : Int) < (L.length : Int) := by omega
      have hll := HLN.out
      have hv := HC.out hz
      have hIw := HI.out.keep hb
      have HBW := Lib.hid hb
      obtain ⟨b0, o0, ea0, q0, x0⟩ := hIw.one 0 (by omega)
      rw [Nat.add_zero] at x0
      subst ea0
      have hln0 : (0 : Int) < (L.length : Int) := by omega
      obtain ⟨z0, hz0⟩ : ∃ z, z = iAt L 0 := ⟨_, rfl⟩
      have hr0 : 1 ≤ z0 ∧ z0 ≤ 13 := by rw [hz0]; exact ⟨HLO.out 0 (by omega), hz 0 (by omega)⟩
      rw [← hz0] at x0
      have HV : Hid (V = z0) := Lib.hid (by rw [hv]; simp only [hz0])
      clear hz hb hIw hv hll hz0
      go_wp2
      skip
      skip
      go_ret
      exact ⟨by rw [HV.out]; first | rfl | (go_num; rfl) | go_num, HBW.out⟩
set_option maxHeartbeats 12800000 in
set_option maxRecDepth 100000 in
theorem rvert_4 (a : Option Addr) (cap : Nat) (L : List Int) (hll : L.length = 1) (_ : ∀ x ∈ L, 1 ≤ x) (w : World) (h : IsAt w a L) : Calls Try.prog 31 #[.int .i64 4, .slice a L.length cap] w (fun e x => e = .returned (.int .i64 (vertK 4 L)) ∧ Below w.heap.size w x) := by
  have HA : Hid (50 < iAt L 0 → vertK 4 L = 13) := Lib.hid (fun hh => by unfold vertK; rw [if_pos rfl, if_pos hh])
  have HC : Hid (¬ 50 < iAt L 0 → vertK 4 L = 2) := Lib.hid (fun hh => by unfold vertK; rw [if_pos rfl, if_neg hh])
  generalize vertK 4 L = V at *
  have HB := Lib.hid (Below.refl w.heap.size w)
  obtain ⟨b0, o0, ea0, q0, x0⟩ := h.one 0 (by omega)
  rw [Nat.add_zero] at x0
  subst ea0
  have hln0 : (0 : Int) < (L.length : Int) := by omega
  have hne : ¬ L = [] := by intro h; rw [h] at hll; simp at hll
  obtain ⟨z, hz⟩ : ∃ z, z = iAt L 0 := ⟨_, rfl⟩
  rw [← hz] at x0 HA HC
  clear h hll hz
  by_cases hgt : 50 < z
  · have HR := Lib.hid (HA.out hgt)
    go_enter Try.func31, Try.ntmps31
    go_wp2
    go_ret
    exact ⟨by rw [HR.out]; rfl, HB.out⟩
  · have HR := Lib.hid (HC.out hgt)
    go_enter Try.func31, Try.ntmps31
    go_wp2
    go_ret
    exact ⟨by rw [HR.out]; rfl, HB.out⟩
set_option maxHeartbeats 12800000 in
set_option maxRecDepth 100000 in
theorem rvert_5 (a : Option Addr) (cap : Nat) (L : List Int) (hll : L.length = 1) (hlo : ∀ x ∈ L, 1 ≤ x) (w : World) (h : IsAt w a L) : Calls Try.prog 31 #[.int .i64 5, .slice a L.length cap] w (fun e x => e = .returned (.int .i64 (vertK 5 L)) ∧ Below w.heap.size w x) := by
  have HA : Hid (∀ i, i < L.length → 13 < iAt L i → vertK 5 L = 13) := Lib.hid (fun i h1 h2 => by unfold vertK; rw [if_neg (by decide), if_pos (any_at L _ i h1 (by simpa using h2))])
  have HC : Hid ((∀ j, j < L.length → iAt L j ≤ 13) → vertK 5 L = iAt L 0 + 1) := Lib.hid (fun hh => by
    unfold vertK
    rw [if_neg (by decide), any_no L (fun x => decide (13 < x)) (fun j hj => by have := hh j hj; simp; omega)]
    simp)
  have HLO : Hid (∀ j, j < L.length → 1 ≤ iAt L j) := Lib.hid (fun j hj => by have := hlo _ (List.getElem_mem hj); rw [iAt_get L j hj] at this; exact this)
  generalize vertK 5 L = V at *
  have HI := Lib.hid h
  have hne : ¬ L = [] := by intro h; rw [h] at hll; simp at hll
  have HLN := Lib.hid hll
  have hl9 : L.length ≤ 10 := by omega
  clear h hlo hll
  go_enter Try.func31, Try.ntmps31
  go_wp2
  go_loopw [6] (fun x wr => ∃ i : Nat, i ≤ L.length ∧ x = .int .i64 i ∧ (∀ j, j < i → iAt L j ≤ 13) ∧ Below w.heap.size w wr) (fun x _ => L.length - (intOf x).toNat)
  case atStart => exact ⟨0, by omega, rfl, fun j hj => by omega, Below.refl _ _⟩
  case round =>
    obtain ⟨i, hi, rfl, hz, hb⟩ := hrel
    by_cases hlt : i < L.length
    · have i1 : (i : Int) < (L.length : Int) := by omega
      have i2 : (0 : Int) ≤ (i : Int) := by omega
      obtain ⟨bb, oo, ea, q1, x1⟩ := (HI.out.keep hb).one i hlt
      subst ea
      have HBW := Lib.hid hb
      obtain ⟨z, hz1⟩ : ∃ z, z = iAt L i := ⟨_, rfl⟩
      rw [← hz1] at x1
      by_cases hgt : 13 < z
      · have HR := Lib.hid (HA.out i hlt (by rw [← hz1]; exact hgt))
        clear hz hz1 hb
        go_wp2
        go_ret
        exact ⟨by rw [HR.out]; rfl, HBW.out⟩
      · have HZ : Hid (∀ j, j < i + 1 → iAt L j ≤ 13) := Lib.hid fun j hj => by
          by_cases e : j = i
          · subst e; rw [← hz1]; omega
          · exact hz j (by omega)
        clear hz hz1 hb
        go_wp2
        go_roundw
        case rel => exact ⟨i + 1, by omega, by go_num, HZ.out, HBW.out⟩
        case measure => simp [intOf]; omega
    · obtain rfl : i = L.length := by omega
      have i1 : ¬ (L.length : Int) < (L.length : Int) := by omega
      have hll := HLN.out
      have hv := HC.out hz
      have hIw := HI.out.keep hb
      have HBW := Lib.hid hb
      obtain ⟨b0, o0, ea0, q0, x0⟩ := hIw.one 0 (by omega)
      rw [Nat.add_zero] at x0
      subst ea0
      have hln0 : (0 : Int) < (L.length : Int) := by omega
      obtain ⟨z0, hz0⟩ : ∃ z, z = iAt L 0 := ⟨_, rfl⟩
      have hr0 : 1 ≤ z0 ∧ z0 ≤ 13 := by rw [hz0]; exact ⟨HLO.out 0 (by omega), hz 0 (by omega)⟩
      rw [← hz0] at x0
      have HV : Hid (V = z0 + 1) := Lib.hid (by rw [hv]; simp only [hz0])
      clear hz hb hIw hv hll hz0
      go_wp2
      skip
      skip
      go_ret
      exact ⟨by rw [HV.out]; first | rfl | (go_num; rfl) | go_num, HBW.out⟩
set_option maxHeartbeats 12800000 in
set_option maxRecDepth 100000 in
theorem rvert_6 (a : Option Addr) (cap : Nat) (L : List Int) (hll : L.length = 2) (hlo : ∀ x ∈ L, 1 ≤ x) (w : World) (h : IsAt w a L) : Calls Try.prog 31 #[.int .i64 6, .slice a L.length cap] w (fun e x => e = .returned (.int .i64 (vertK 6 L)) ∧ Below w.heap.size w x) := by
  have HA : Hid (∀ i, i < L.length → 13 < iAt L i → vertK 6 L = 13) := Lib.hid (fun i h1 h2 => by unfold vertK; rw [if_neg (by decide), if_pos (any_at L _ i h1 (by simpa using h2))])
  have HC : Hid ((∀ j, j < L.length → iAt L j ≤ 13) → vertK 6 L = iAt L 0 + iAt L 1) := Lib.hid (fun hh => by
    unfold vertK
    rw [if_neg (by decide), any_no L (fun x => decide (13 < x)) (fun j hj => by have := hh j hj; simp; omega)]
    simp)
  have HLO : Hid (∀ j, j < L.length → 1 ≤ iAt L j) := Lib.hid (fun j hj => by have := hlo _ (List.getElem_mem hj); rw [iAt_get L j hj] at this; exact this)
  generalize vertK 6 L = V at *
  have HI := Lib.hid h
  have hne : ¬ L = [] := by intro h; rw [h] at hll; simp at hll
  have HLN := Lib.hid hll
  have hl9 : L.length ≤ 10 := by omega
  clear h hlo hll
  go_enter Try.func31, Try.ntmps31
  go_wp2
  go_loopw [6] (fun x wr => ∃ i : Nat, i ≤ L.length ∧ x = .int .i64 i ∧ (∀ j, j < i → iAt L j ≤ 13) ∧ Below w.heap.size w wr) (fun x _ => L.length - (intOf x).toNat)
  case atStart => exact ⟨0, by omega, rfl, fun j hj => by omega, Below.refl _ _⟩
  case round =>
    obtain ⟨i, hi, rfl, hz, hb⟩ := hrel
    by_cases hlt : i < L.length
    · have i1 : (i : Int) < (L.length : Int) := by omega
      have i2 : (0 : Int) ≤ (i : Int) := by omega
      obtain ⟨bb, oo, ea, q1, x1⟩ := (HI.out.keep hb).one i hlt
      subst ea
      have HBW := Lib.hid hb
      obtain ⟨z, hz1⟩ : ∃ z, z = iAt L i := ⟨_, rfl⟩
      rw [← hz1] at x1
      by_cases hgt : 13 < z
      · have HR := Lib.hid (HA.out i hlt (by rw [← hz1]; exact hgt))
        clear hz hz1 hb
        go_wp2
        go_ret
        exact ⟨by rw [HR.out]; rfl, HBW.out⟩
      · have HZ : Hid (∀ j, j < i + 1 → iAt L j ≤ 13) := Lib.hid fun j hj => by
          by_cases e : j = i
          · subst e; rw [← hz1]; omega
          · exact hz j (by omega)
        clear hz hz1 hb
        go_wp2
        go_roundw
        case rel => exact ⟨i + 1, by omega, by go_num, HZ.out, HBW.out⟩
        case measure => simp [intOf]; omega
    · obtain rfl : i = L.length := by omega
      have i1 : ¬ (L.length : Int) < (L.length : Int) := by omega
      have hll := HLN.out
      have hv := HC.out hz
      have hIw := HI.out.keep hb
      have HBW := Lib.hid hb
      obtain ⟨b0, o0, ea0, q0, x0⟩ := hIw.one 0 (by omega)
      rw [Nat.add_zero] at x0
      subst ea0
      obtain ⟨b1, o1, ea1, q1, x1⟩ := hIw.one 1 (by omega)
      injection ea1 with ea1
      injection ea1 with ea1 eb1
      subst ea1 eb1
      have hln0 : (0 : Int) < (L.length : Int) := by omega
      have hln1 : (1 : Int) < (L.length : Int) := by omega
      obtain ⟨z0, hz0⟩ : ∃ z, z = iAt L 0 := ⟨_, rfl⟩
      obtain ⟨z1, hz1⟩ : ∃ z, z = iAt L 1 := ⟨_, rfl⟩
      have hr0 : 1 ≤ z0 ∧ z0 ≤ 13 := by rw [hz0]; exact ⟨HLO.out 0 (by omega), hz 0 (by omega)⟩
      have hr1 : 1 ≤ z1 ∧ z1 ≤ 13 := by rw [hz1]; exact ⟨HLO.out 1 (by omega), hz 1 (by omega)⟩
      rw [← hz0] at x0
      rw [← hz1] at x1
      have HV : Hid (V = z0 + z1) := Lib.hid (by rw [hv]; simp only [hz0, hz1])
      clear hz hb hIw hv hll hz0 hz1
      go_wp2
      go_region
      go_wp2
      go_ret
      exact ⟨by rw [HV.out]; first | rfl | (go_num; rfl) | go_num, HBW.out.drew⟩
set_option maxHeartbeats 12800000 in
set_option maxRecDepth 100000 in
theorem rvert_7 (a : Option Addr) (cap : Nat) (L : List Int) (hll : L.length = 2) (hlo : ∀ x ∈ L, 1 ≤ x) (w : World) (h : IsAt w a L) : Calls Try.prog 31 #[.int .i64 7, .slice a L.length cap] w (fun e x => e = .returned (.int .i64 (vertK 7 L)) ∧ Below w.heap.size w x) := by
  have HA : Hid (∀ i, i < L.length → 13 < iAt L i → vertK 7 L = 13) := Lib.hid (fun i h1 h2 => by unfold vertK; rw [if_neg (by decide), if_pos (any_at L _ i h1 (by simpa using h2))])
  have HC : Hid ((∀ j, j < L.length → iAt L j ≤ 13) → vertK 7 L = iAt L 0 * iAt L 1) := Lib.hid (fun hh => by
    unfold vertK
    rw [if_neg (by decide), any_no L (fun x => decide (13 < x)) (fun j hj => by have := hh j hj; simp; omega)]
    simp)
  have HLO : Hid (∀ j, j < L.length → 1 ≤ iAt L j) := Lib.hid (fun j hj => by have := hlo _ (List.getElem_mem hj); rw [iAt_get L j hj] at this; exact this)
  generalize vertK 7 L = V at *
  have HI := Lib.hid h
  have hne : ¬ L = [] := by intro h; rw [h] at hll; simp at hll
  have HLN := Lib.hid hll
  have hl9 : L.length ≤ 10 := by omega
  clear h hlo hll
  go_enter Try.func31, Try.ntmps31
  go_wp2
  go_loopw [6] (fun x wr => ∃ i : Nat, i ≤ L.length ∧ x = .int .i64 i ∧ (∀ j, j < i → iAt L j ≤ 13) ∧ Below w.heap.size w wr) (fun x _ => L.length - (intOf x).toNat)
  case atStart => exact ⟨0, by omega, rfl, fun j hj => by omega, Below.refl _ _⟩
  case round =>
    obtain ⟨i, hi, rfl, hz, hb⟩ := hrel
    by_cases hlt : i < L.length
    · have i1 : (i : Int) < (L.length : Int) := by omega
      have i2 : (0 : Int) ≤ (i : Int) := by omega
      obtain ⟨bb, oo, ea, q1, x1⟩ := (HI.out.keep hb).one i hlt
      subst ea
      have HBW := Lib.hid hb
      obtain ⟨z, hz1⟩ : ∃ z, z = iAt L i := ⟨_, rfl⟩
      rw [← hz1] at x1
      by_cases hgt : 13 < z
      · have HR := Lib.hid (HA.out i hlt (by rw [← hz1]; exact hgt))
        clear hz hz1 hb
        go_wp2
        go_ret
        exact ⟨by rw [HR.out]; rfl, HBW.out⟩
      · have HZ : Hid (∀ j, j < i + 1 → iAt L j ≤ 13) := Lib.hid fun j hj => by
          by_cases e : j = i
          · subst e; rw [← hz1]; omega
          · exact hz j (by omega)
        clear hz hz1 hb
        go_wp2
        go_roundw
        case rel => exact ⟨i + 1, by omega, by go_num, HZ.out, HBW.out⟩
        case measure => simp [intOf]; omega
    · obtain rfl : i = L.length := by omega
      have i1 : ¬ (L.length : Int) < (L.length : Int) := by omega
      have hll := HLN.out
      have hv := HC.out hz
      have hIw := HI.out.keep hb
      have HBW := Lib.hid hb
      obtain ⟨b0, o0, ea0, q0, x0⟩ := hIw.one 0 (by omega)
      rw [Nat.add_zero] at x0
      subst ea0
      obtain ⟨b1, o1, ea1, q1, x1⟩ := hIw.one 1 (by omega)
      injection ea1 with ea1
      injection ea1 with ea1 eb1
      subst ea1 eb1
      have hln0 : (0 : Int) < (L.length : Int) := by omega
      have hln1 : (1 : Int) < (L.length : Int) := by omega
      obtain ⟨z0, hz0⟩ : ∃ z, z = iAt L 0 := ⟨_, rfl⟩
      obtain ⟨z1, hz1⟩ : ∃ z, z = iAt L 1 := ⟨_, rfl⟩
      have hr0 : 1 ≤ z0 ∧ z0 ≤ 13 := by rw [hz0]; exact ⟨HLO.out 0 (by omega), hz 0 (by omega)⟩
      have hr1 : 1 ≤ z1 ∧ z1 ≤ 13 := by rw [hz1]; exact ⟨HLO.out 1 (by omega), hz 1 (by omega)⟩
      rw [← hz0] at x0
      rw [← hz1] at x1
      have hm1 : 0 ≤ z0 * z1 := Int.mul_nonneg (by omega) (by omega)
      have hm2 : z0 * z1 ≤ 13 * 13 := Int.mul_le_mul hr0.2 hr1.2 (by omega) (by omega)
      have e1 : IntKind.i64.wrap (z0 * z1) = z0 * z1 := IntWalk.i64_in _ (by omega)
      have HV : Hid (V = z0 * z1) := Lib.hid (by rw [hv]; simp only [hz0, hz1])
      clear hz hb hIw hv hll hz0 hz1
      go_wp2
      go_region
      go_wp2
      go_ret
      exact ⟨by rw [HV.out]; first | rfl | (go_num; rfl) | go_num, HBW.out.drew⟩
set_option maxHeartbeats 12800000 in
set_option maxRecDepth 100000 in
theorem rvert_8 (a : Option Addr) (cap : Nat) (L : List Int) (hll : L.length = 3) (hlo : ∀ x ∈ L, 1 ≤ x) (w : World) (h : IsAt w a L) : Calls Try.prog 31 #[.int .i64 8, .slice a L.length cap] w (fun e x => e = .returned (.int .i64 (vertK 8 L)) ∧ Below w.heap.size w x) := by
  have HA : Hid (∀ i, i < L.length → 13 < iAt L i → vertK 8 L = 13) := Lib.hid (fun i h1 h2 => by unfold vertK; rw [if_neg (by decide), if_pos (any_at L _ i h1 (by simpa using h2))])
  have HC : Hid ((∀ j, j < L.length → iAt L j ≤ 13) → vertK 8 L = iAt L 0 + iAt L 1 + iAt L 2 - 1) := Lib.hid (fun hh => by
    unfold vertK
    rw [if_neg (by decide), any_no L (fun x => decide (13 < x)) (fun j hj => by have := hh j hj; simp; omega)]
    simp)
  have HLO : Hid (∀ j, j < L.length → 1 ≤ iAt L j) := Lib.hid (fun j hj => by have := hlo _ (List.getElem_mem hj); rw [iAt_get L j hj] at this; exact this)
  generalize vertK 8 L = V at *
  have HI := Lib.hid h
  have hne : ¬ L = [] := by intro h; rw [h] at hll; simp at hll
  have HLN := Lib.hid hll
  have hl9 : L.length ≤ 10 := by omega
  clear h hlo hll
  go_enter Try.func31, Try.ntmps31
  go_wp2
  go_loopw [6] (fun x wr => ∃ i : Nat, i ≤ L.length ∧ x = .int .i64 i ∧ (∀ j, j < i → iAt L j ≤ 13) ∧ Below w.heap.size w wr) (fun x _ => L.length - (intOf x).toNat)
  case atStart => exact ⟨0, by omega, rfl, fun j hj => by omega, Below.refl _ _⟩
  case round =>
    obtain ⟨i, hi, rfl, hz, hb⟩ := hrel
    by_cases hlt : i < L.length
    · have i1 : (i : Int) < (L.length : Int) := by omega
      have i2 : (0 : Int) ≤ (i : Int) := by omega
      obtain ⟨bb, oo, ea, q1, x1⟩ := (HI.out.keep hb).one i hlt
      subst ea
      have HBW := Lib.hid hb
      obtain ⟨z, hz1⟩ : ∃ z, z = iAt L i := ⟨_, rfl⟩
      rw [← hz1] at x1
      by_cases hgt : 13 < z
      · have HR := Lib.hid (HA.out i hlt (by rw [← hz1]; exact hgt))
        clear hz hz1 hb
        go_wp2
        go_ret
        exact ⟨by rw [HR.out]; rfl, HBW.out⟩
      · have HZ : Hid (∀ j, j < i + 1 → iAt L j ≤ 13) := Lib.hid fun j hj => by
          by_cases e : j = i
          · subst e; rw [← hz1]; omega
          · exact hz j (by omega)
        clear hz hz1 hb
        go_wp2
        go_roundw
        case rel => exact ⟨i + 1, by omega, by go_num, HZ.out, HBW.out⟩
        case measure => simp [intOf]; omega
    · obtain rfl : i = L.length := by omega
      have i1 : ¬ (L.length : Int) < (L.length : Int) := by omega
      have hll := HLN.out
      have hv := HC.out hz
      have hIw := HI.out.keep hb
      have HBW := Lib.hid hb
      obtain ⟨b0, o0, ea0, q0, x0⟩ := hIw.one 0 (by omega)
      rw [Nat.add_zero] at x0
      subst ea0
      obtain ⟨b1, o1, ea1, q1, x1⟩ := hIw.one 1 (by omega)
      injection ea1 with ea1
      injection ea1 with ea1 eb1
      subst ea1 eb1
      obtain ⟨b2, o2, ea2, q2, x2⟩ := hIw.one 2 (by omega)
      injection ea2 with ea2
      injection ea2 with ea2 eb2
      subst ea2 eb2
      have hln0 : (0 : Int) < (L.length : Int) := by omega
      have hln1 : (1 : Int) < (L.length : Int) := by omega
      have hln2 : (2 : Int) < (L.length : Int) := by omega
      obtain ⟨z0, hz0⟩ : ∃ z, z = iAt L 0 := ⟨_, rfl⟩
      obtain ⟨z1, hz1⟩ : ∃ z, z = iAt L 1 := ⟨_, rfl⟩
      obtain ⟨z2, hz2⟩ : ∃ z, z = iAt L 2 := ⟨_, rfl⟩
      have hr0 : 1 ≤ z0 ∧ z0 ≤ 13 := by rw [hz0]; exact ⟨HLO.out 0 (by omega), hz 0 (by omega)⟩
      have hr1 : 1 ≤ z1 ∧ z1 ≤ 13 := by rw [hz1]; exact ⟨HLO.out 1 (by omega), hz 1 (by omega)⟩
      have hr2 : 1 ≤ z2 ∧ z2 ≤ 13 := by rw [hz2]; exact ⟨HLO.out 2 (by omega), hz 2 (by omega)⟩
      rw [← hz0] at x0
      rw [← hz1] at x1
      rw [← hz2] at x2
      have HV : Hid (V = z0 + z1 + z2 - 1) := Lib.hid (by rw [hv]; simp only [hz0, hz1, hz2])
      clear hz hb hIw hv hll hz0 hz1 hz2
      go_wp2
      go_region
      go_wp2
      go_ret
      exact ⟨by rw [HV.out]; first | rfl | (go_num; rfl) | go_num, HBW.out.drew⟩
end Go.Proofs.Ytgfbihdnjidodaa
