/- Walks of the exported functions: Quo and Rem. -/
import Derived.Test.YtbmonfbbkmpdhaaDoorUe
namespace Go.Proofs.YtbmonfbbkmpdhaaDoor
open Go.RowKit Go.Proofs.Num

set_option maxRecDepth 100000 in
set_option maxHeartbeats 3200000 in
theorem divided_zero (s r : ByteArray) (hs : s.size ≤ 9223372036854775807) (hr : r.size ≤ 9223372036854775807) (h0 : chk2 s.data.toList r.data.toList = 0) (hy0 : parse r.data.toList = 0) (w : World) :
    Calls Tryd.prog 73 #[.string s, .string r] w fun e w' => e = .returned (.tuple #[.agg #[.bool false, .slice none 0 0], .agg #[.bool false, .slice none 0 0], .int .i64 10]) ∧ Below w.heap.size w w' := by
  obtain ⟨W, hW, hA, hB, hBl, hsz⟩ := boxes2 w (.bool false) (.slice none 0 0) (.bool false) (.slice none 0 0)
  have HC := Lib.hid h0
  have HW := Lib.hid hW
  have HA := Lib.hid hA
  have HB := Lib.hid hB
  have HZ := Lib.hid hsz
  have HY := Lib.hid hy0
  clear h0 hA hB hW hsz hy0
  go_enter Tryd.func73, Tryd.ntmps73
  go_wp2_with fail
  rw [← HW.out]
  refine (readTwo_any s r hs hr _).mono ?_
  rintro e w1 ⟨v1, v2, rfl, hb, ⟨b, a, k, p, rfl⟩, ⟨b', a', k', p', rfl⟩, hok⟩
  have hok := hok HC.out
  rw [HY.out] at hok
  rw [HC.out]
  obtain ⟨W1, hW1, hA1, hB1, hBl1, hsz1⟩ := boxes2 w1 (.bool b) (.slice a k p) (.bool b') (.slice a' k' p')
  have HN : Hid (Nm W1 (.agg #[.bool b', .slice a' k' p']) 0) := hok.2.keep hBl1
  have hbW : Below W.heap.size W W1 := hb.trans (hBl1.mono hb.size)
  have a0 := hA1.c0; have a1 := hA1.c1; have b0 := hB1.c0; have b1 := hB1.c1
  have HW1 := Lib.hid hW1
  rw [hW1] at a0 a1 b0 b1
  clear hok hA1 hB1 hW1 hBl1 hsz1
  go_wp2_with fail
  rw [← HW1.out]
  refine (nsign_any _ 0 _ HN.out).mono ?_
  rintro e w2 ⟨he, hb2⟩
  rw [sgn_zero] at he
  subst he
  clear a0 a1 b0 b1
  have hb3 : Below W.heap.size W w2 := hbW.trans (hb2.mono hbW.size)
  have hA1 := HA.out.keep hb3
  have hB1 := HB.out.keep hb3
  have a0 := hA1.c0; have a1 := hA1.c1; have b0 := hB1.c0; have b1 := hB1.c1; have a2 := hA1.f0 0; have a3 := hA1.f0 1; have b2 := hB1.f0 0; have b3 := hB1.f0 1
  have hK : Kept [w.heap.size, w.heap.size + 1] w2 w2 := Kept.start (by intro r hr; simp at hr; rcases hr with rfl | rfl; exact ⟨_, _, hA1⟩; exact ⟨_, _, hB1⟩)
  have HK := Lib.hid hK
  clear hA1 hB1 hK
  go_wp2
  exact bodyPost_ret (v := .tuple #[.agg #[.bool false, .slice none 0 0], .agg #[.bool false, .slice none 0 0], .int .i64 10]) (by simp [results, Tryd.results73, go_sem, a0, a1, b0, b1]) rfl
    ⟨rfl, (Kept.store (Kept.store HK.out _ _ _ (by simp)) _ _ _ (by simp)).from (hBl.trans (hb3.mono hBl.size)) (by simp)⟩

/-- The error of a quotient. -/
def chkD (l m : List UInt8) : Nat := if chk2 l m ≠ 0 then chk2 l m else if parse m = 0 then 10 else 0

theorem divided_any (M : Nat) (hD : DivTo M) (s r : ByteArray) (hs : s.size ≤ 9223372036854775807) (hr : r.size ≤ 9223372036854775807) (hyM : chkD s.data.toList r.data.toList = 0 → (parse r.data.toList).natAbs ≤ M) (w : World) :
    Calls Tryd.prog 73 #[.string s, .string r] w fun e w' => ∃ v1 v2, e = .returned (.tuple #[v1, v2, .int .i64 ((chkD s.data.toList r.data.toList : Nat) : Int)]) ∧ Below w.heap.size w w' ∧ (∃ b a k p, v1 = .agg #[.bool b, .slice a k p]) ∧ (∃ b a k p, v2 = .agg #[.bool b, .slice a k p]) ∧
      (chkD s.data.toList r.data.toList = 0 → Nm w' v1 (qz (parse s.data.toList) (parse r.data.toList)) ∧ Nm w' v2 (rz (parse s.data.toList) (parse r.data.toList))) := by
  unfold chkD at *
  by_cases h1 : chk2 s.data.toList r.data.toList = 0
  · rw [if_neg (by omega)] at hyM ⊢
    by_cases h2 : parse r.data.toList = 0
    · rw [if_pos h2]
      refine (divided_zero s r hs hr h1 h2 w).mono ?_
      rintro e w' ⟨rfl, hb⟩
      exact ⟨_, _, rfl, hb, ⟨_, _, _, _, rfl⟩, ⟨_, _, _, _, rfl⟩, fun h => by omega⟩
    · rw [if_neg h2] at hyM ⊢
      refine (divided_ok M hD s r hs hr h1 h2 (hyM rfl) w).mono ?_
      rintro e w' ⟨b1, a1, k1, p1, b2, a2, k2, p2, rfl, hb, hx, hy⟩
      exact ⟨_, _, rfl, hb, ⟨_, _, _, _, rfl⟩, ⟨_, _, _, _, rfl⟩, fun _ => ⟨hx, hy⟩⟩
  · rw [if_pos h1]
    refine (divided_err s r hs hr h1 w).mono ?_
    rintro e w' ⟨rfl, hb⟩
    exact ⟨_, _, rfl, hb, ⟨_, _, _, _, rfl⟩, ⟨_, _, _, _, rfl⟩, fun h => absurd h h1⟩

set_option maxRecDepth 100000 in
set_option maxHeartbeats 1600000 in
theorem quo_err (M : Nat) (hD : DivTo M) (s r : ByteArray) (hs : s.size ≤ 9223372036854775807) (hr : r.size ≤ 9223372036854775807) (h0 : chkD s.data.toList r.data.toList ≠ 0) (w : World) :
    Calls Tryd.prog 40 #[.string s, .string r] w (TextOut w [] (chkD s.data.toList r.data.toList)) := by
  have hcall := divided_any M hD s r hs hr (fun h => absurd h h0)
  obtain ⟨c, hcc⟩ : ∃ c, c = chkD s.data.toList r.data.toList := ⟨_, rfl⟩
  have hne : ((c : Int) == 0) = false := by simp; omega
  have hne2 : ((c : Int) != 0) = true := by simp; omega
  rw [← hcc]
  have HC := Lib.hid hcc
  have HD := Lib.hid hcall
  clear hcc h0 hcall
  go_enter Tryd.func40, Tryd.ntmps40
  go_wp2_with fail
  refine (HD.out _).mono ?_
  rintro e w1 ⟨v1, v2, rfl, hb, ⟨b, a, k, p, rfl⟩, ⟨b', a', k', p', rfl⟩, -⟩
  rw [← HC.out]
  go_wp2
  go_ret2
  exact ⟨rfl, (hb.alloc hb.size _).alloc (by have := hb.size; simp; omega) _⟩

set_option maxRecDepth 100000 in
set_option maxHeartbeats 1600000 in
theorem quo_ok (M : Nat) (hD : DivTo M) (s r : ByteArray) (hs : s.size ≤ 9223372036854775807) (hr : r.size ≤ 9223372036854775807) (h0 : chkD s.data.toList r.data.toList = 0) (hyM : (parse r.data.toList).natAbs ≤ M)
    (hsm : Sm (qz (parse s.data.toList) (parse r.data.toList)) 4294967295) (w : World) (hT : Tab w) :
    Calls Tryd.prog 40 #[.string s, .string r] w (TextOut w (tx (qz (parse s.data.toList) (parse r.data.toList))) (te (qz (parse s.data.toList) (parse r.data.toList)))) := by
  have hcall := divided_any M hD s r hs hr (fun _ => hyM)
  obtain ⟨z, hz⟩ : ∃ z, z = qz (parse s.data.toList) (parse r.data.toList) := ⟨_, rfl⟩
  rw [← hz] at hsm ⊢
  obtain ⟨t, ht⟩ : ∃ t, t = tx z := ⟨_, rfl⟩
  obtain ⟨c, hc⟩ : ∃ c, c = te z := ⟨_, rfl⟩
  rw [← ht, ← hc]
  have HSM := Lib.hid hsm
  have HT := Lib.hid hT
  have HD := Lib.hid hcall
  have HC := Lib.hid h0
  have HZ := Lib.hid hz
  have HTX := Lib.hid ht
  have HTE := Lib.hid hc
  clear hcall hT h0 hyM hz ht hc hsm
  go_enter Tryd.func40, Tryd.ntmps40
  go_wp2_with fail
  refine (HD.out _).mono ?_
  rintro e w1 ⟨v1, v2, rfl, hb, ⟨b, a, k, p, rfl⟩, ⟨b', a', k', p', rfl⟩, hok⟩
  have hok := hok HC.out
  rw [← HZ.out] at hok
  rw [HC.out]
  obtain ⟨W, hW, hA, hB, hBl, hsz⟩ := boxes2 w1 (.bool b) (.slice a k p) (.bool b') (.slice a' k' p')
  have HN : Hid (Nm W (.agg #[.bool b, .slice a k p]) z) := hok.1.keep hBl
  have hbW : Below w.heap.size w W := hb.trans (hBl.mono hb.size)
  have a0 := hA.c0; have a1 := hA.c1; have b0 := hB.c0; have b1 := hB.c1
  have HW := Lib.hid hW
  rw [hW] at a0 a1 b0 b1
  clear hok hA hB hW hBl hsz
  go_wp2_with fail
  rw [← HW.out]
  refine (text_any _ z _ HN.out HSM.out (HT.out.keep hbW)).mono ?_
  rintro e w3 ⟨he, hb3⟩
  rw [← HTX.out, ← HTE.out] at he
  subst he
  go_wp2
  go_ret2
  exact ⟨rfl, hbW.trans (hb3.mono hbW.size)⟩

set_option maxRecDepth 100000 in
set_option maxHeartbeats 1600000 in
theorem rem_err (M : Nat) (hD : DivTo M) (s r : ByteArray) (hs : s.size ≤ 9223372036854775807) (hr : r.size ≤ 9223372036854775807) (h0 : chkD s.data.toList r.data.toList ≠ 0) (w : World) :
    Calls Tryd.prog 41 #[.string s, .string r] w (TextOut w [] (chkD s.data.toList r.data.toList)) := by
  have hcall := divided_any M hD s r hs hr (fun h => absurd h h0)
  obtain ⟨c, hcc⟩ : ∃ c, c = chkD s.data.toList r.data.toList := ⟨_, rfl⟩
  have hne : ((c : Int) == 0) = false := by simp; omega
  have hne2 : ((c : Int) != 0) = true := by simp; omega
  rw [← hcc]
  have HC := Lib.hid hcc
  have HD := Lib.hid hcall
  clear hcc h0 hcall
  go_enter Tryd.func41, Tryd.ntmps41
  go_wp2_with fail
  refine (HD.out _).mono ?_
  rintro e w1 ⟨v1, v2, rfl, hb, ⟨b, a, k, p, rfl⟩, ⟨b', a', k', p', rfl⟩, -⟩
  rw [← HC.out]
  go_wp2
  go_ret2
  exact ⟨rfl, (hb.alloc hb.size _).alloc (by have := hb.size; simp; omega) _⟩

set_option maxRecDepth 100000 in
set_option maxHeartbeats 1600000 in
theorem rem_ok (M : Nat) (hD : DivTo M) (s r : ByteArray) (hs : s.size ≤ 9223372036854775807) (hr : r.size ≤ 9223372036854775807) (h0 : chkD s.data.toList r.data.toList = 0) (hyM : (parse r.data.toList).natAbs ≤ M)
    (hsm : Sm (rz (parse s.data.toList) (parse r.data.toList)) 4294967295) (w : World) (hT : Tab w) :
    Calls Tryd.prog 41 #[.string s, .string r] w (TextOut w (tx (rz (parse s.data.toList) (parse r.data.toList))) (te (rz (parse s.data.toList) (parse r.data.toList)))) := by
  have hcall := divided_any M hD s r hs hr (fun _ => hyM)
  obtain ⟨z, hz⟩ : ∃ z, z = rz (parse s.data.toList) (parse r.data.toList) := ⟨_, rfl⟩
  rw [← hz] at hsm ⊢
  obtain ⟨t, ht⟩ : ∃ t, t = tx z := ⟨_, rfl⟩
  obtain ⟨c, hc⟩ : ∃ c, c = te z := ⟨_, rfl⟩
  rw [← ht, ← hc]
  have HSM := Lib.hid hsm
  have HT := Lib.hid hT
  have HD := Lib.hid hcall
  have HC := Lib.hid h0
  have HZ := Lib.hid hz
  have HTX := Lib.hid ht
  have HTE := Lib.hid hc
  clear hcall hT h0 hyM hz ht hc hsm
  go_enter Tryd.func41, Tryd.ntmps41
  go_wp2_with fail
  refine (HD.out _).mono ?_
  rintro e w1 ⟨v1, v2, rfl, hb, ⟨b, a, k, p, rfl⟩, ⟨b', a', k', p', rfl⟩, hok⟩
  have hok := hok HC.out
  rw [← HZ.out] at hok
  rw [HC.out]
  obtain ⟨W, hW, hA, hB, hBl, hsz⟩ := boxes2 w1 (.bool b) (.slice a k p) (.bool b') (.slice a' k' p')
  have HN : Hid (Nm W (.agg #[.bool b', .slice a' k' p']) z) := hok.2.keep hBl
  have hbW : Below w.heap.size w W := hb.trans (hBl.mono hb.size)
  have a0 := hA.c0; have a1 := hA.c1; have b0 := hB.c0; have b1 := hB.c1
  have HW := Lib.hid hW
  rw [hW] at a0 a1 b0 b1
  clear hok hA hB hW hBl hsz
  go_wp2_with fail
  rw [← HW.out]
  refine (text_any _ z _ HN.out HSM.out (HT.out.keep hbW)).mono ?_
  rintro e w3 ⟨he, hb3⟩
  rw [← HTX.out, ← HTE.out] at he
  subst he
  go_wp2
  go_ret2
  exact ⟨rfl, hbW.trans (hb3.mono hbW.size)⟩

end Go.Proofs.YtbmonfbbkmpdhaaDoor
