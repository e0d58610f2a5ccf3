/- LexerPlaces: the text at the offset of a token begins with it, and only blanks are between tokens. -/
import Derived.Test.YtffcahhnaomegaaDoorPa
import Derived.Test.YtffcahhnaomegaaDoorMa
namespace Go.Proofs.YtffcahhnaomegaaDoor
open Go.RowKit Go.Proofs.Lx

theorem extract_bl (s : ByteArray) (a b : Nat) : bl (s.extract a b) = ((bl s).drop a).take (b - a) := by
  unfold bl
  rw [ByteArray.data_extract, Array.toList_extract]
theorem trim_any (s : ByteArray) (hs : s.size ≤ 1500) (a b : Nat) (h : blanks (bl s) a b) (w : World) :
    Calls Tryd.prog 6 #[.string (s.extract a b), .string ⟨#[32]⟩] w (fun e w' => e = .returned (.string ⟨#[]⟩) ∧ Below w.heap.size w w') := by
  refine (Tryd.strings_Trim_one (s.extract a b) 32 (by decide) w (by simp; omega)).mono ?_
  rintro e w' ⟨rfl, hw⟩
  have h1 : (s.extract a b).data.toList = bl (s.extract a b) := rfl
  have h2 : Lib.trimB (bl (s.extract a b)) 32 = [] := by
    have h3 : bl (s.extract a b) = List.replicate (bl (s.extract a b)).length 32 := by
      rw [List.eq_replicate_iff]
      refine ⟨rfl, fun c hc => ?_⟩
      rw [extract_bl] at hc
      obtain ⟨j, hj, rfl⟩ := List.mem_iff_getElem.1 hc
      rw [List.length_take, List.length_drop] at hj
      have h4 := h (a + j) (by omega) (by omega)
      rw [List.getElem_take, List.getElem_drop]
      rw [List.getElem?_eq_getElem (by omega)] at h4
      injection h4
    rw [h3]
    generalize (bl (s.extract a b)).length = m
    unfold Lib.trimB Lib.trimRightB Lib.trimLeftB
    rw [List.reverse_replicate]
    have h5 : ∀ m : Nat, (List.replicate m (32 : UInt8)).dropWhile (· == 32) = [] := by
      intro m
      induction m with
      | zero => rfl
      | succ m ih => rw [List.replicate_succ, List.dropWhile_cons, if_pos (by rfl)]; exact ih
    rw [h5]; rfl
  rw [h1, h2]
  refine ⟨rfl, ?_⟩
  rcases hw with rfl | rfl
  · exact Below.refl _ _
  · exact (Below.refl _ _).drew
theorem prefix_any (s : ByteArray) (p : Nat) (T : List UInt8) (h : ((bl s).drop p).take T.length = T) (w : World) :
    Calls Tryd.prog 7 #[.string (s.extract p s.size), .string (bt T)] w (fun e w' => e = .returned (.bool true) ∧ Below w.heap.size w w') := by
  refine (Tryd.strings_HasPrefix (s.extract p s.size) (bt T) w).mono ?_
  rintro e w' ⟨rfl, rfl⟩
  refine ⟨?_, Below.refl _ _⟩
  have h1 : (s.extract p s.size).data.toList = (bl s).drop p := by
    show bl (s.extract p s.size) = _
    rw [extract_bl, List.take_of_length_le]
    rw [List.length_drop]; simp [bl]
  have h2 : (bt T).data.toList = T := by simp
  rw [h1, h2]
  have : Lib.hasPrefix ((bl s).drop p) T = true := by
    have h3 : T <+: (bl s).drop p := by rw [← h]; exact List.take_prefix _ _
    first | (unfold Lib.hasPrefix; simpa using h3) | (unfold Lib.hasPrefix; exact List.isPrefixOf_iff_prefix.2 h3)
  rw [this]

set_option maxHeartbeats 6400000 in
set_option maxRecDepth 100000 in
theorem places_long (s : ByteArray) (h : 1500 < s.size) (w : World) :
    Calls Tryd.prog 3 #[.string s] w (fun e w' => e = .returned (.bool true) ∧ Below w.heap.size w w') := by
  have HAW := Lib.hid awake_any
  have d1 : decide (1500 < (s.size : Int)) = true := decide_eq_true (by omega)
  clear h
  go_enter Tryd.func3, Tryd.ntmps3
  go_wp2_with fail
  refine (HAW.out _).mono ?_
  rintro e w1 ⟨rfl, hb⟩
  go_wp2
  go_ret
  exact ⟨rfl, hb⟩
set_option maxHeartbeats 6400000 in
set_option maxRecDepth 100000 in
theorem places_err (s : ByteArray) (h : ¬ 1500 < s.size) (hk : (scanR (bl s)).2.2 ≠ 0) (w : World) :
    Calls Tryd.prog 3 #[.string s] w (fun e w' => e = .returned (.bool true) ∧ Below w.heap.size w w') := by
  have HAW := Lib.hid awake_any
  have d1 : decide (1500 < (s.size : Int)) = false := decide_eq_false (by omega)
  have H1 := Lib.hid (fun w => pscan_any s w)
  unfold GivesTk at H1
  obtain ⟨hL, hp⟩ := scan_fail (l := bl s) (R := (scanR (bl s)).1) (at_ := (scanR (bl s)).2.1) (e := (scanR (bl s)).2.2) (by simp [bl]; omega) rfl hk
  rw [hL] at H1
  have hps : (scanR (bl s)).2.1 < s.size := by simpa [bl] using hp
  have q0 : (((scanR (bl s)).2.2 : Int) != 0) = true := by rw [bne_iff_ne]; omega
  generalize (scanR (bl s)).2.2 = k at *
  generalize (scanR (bl s)).2.1 = p at *
  have q1 : decide ((p : Int) < (s.size : Int)) = true := decide_eq_true (by omega)
  have q2 : decide (0 ≤ (p : Int)) = true := decide_eq_true (by omega)
  clear h hk hL hp
  simp only [List.length_nil] at H1
  go_enter Tryd.func3, Tryd.ntmps3
  go_wp2_with fail
  refine (H1.out _).mono ?_
  rintro e w1 ⟨a, c, rfl, ht, hb1⟩
  have Hb1 := Lib.hid hb1
  clear hb1 ht
  go_wp2_with fail
  refine (HAW.out _).mono ?_
  rintro e w3 ⟨rfl, hb⟩
  go_wp2
  go_ret
  exact ⟨rfl, Hb1.out.trans (hb.mono Hb1.out.size)⟩

set_option maxHeartbeats 12800000 in
set_option maxRecDepth 100000 in
theorem places_ok (s : ByteArray) (h : ¬ 1500 < s.size) (L : List Tk) (p : Nat) (hk : scanR (bl s) = (L, p, 0)) (w : World) :
    Calls Tryd.prog 3 #[.string s] w (fun e w' => e = .returned (.bool true) ∧ Below w.heap.size w w') := by
  have HAW := Lib.hid awake_any
  have d1 : decide (1500 < (s.size : Int)) = false := decide_eq_false (by omega)
  have H1 := Lib.hid (fun w => pscan_any s w)
  unfold GivesTk at H1
  rw [hk] at H1
  have hL := scanR_len s
  rw [hk] at hL
  obtain ⟨hLp, hend, hpl⟩ := scan_places (l := bl s) (by simp [bl]; omega) hk
  have hend2 : endAt L L.length = s.size := by rw [hend]; simp [bl]
  have HEND := Lib.hid hend2
  have HPL := Lib.hid hpl
  have hs : s.size ≤ 1500 := by omega
  have hL2 : L.length ≤ 100000 := by simp only at hL; omega
  clear h hk hend hend2 hpl hL
  go_enter Tryd.func3, Tryd.ntmps3
  go_wp2_with fail
  refine (H1.out _).mono ?_
  rintro e w1 ⟨a, cap, rfl, ht, hb1⟩
  have Hb1 := Lib.hid hb1
  have HT1 := Lib.hid ht
  clear hb1 ht
  go_wp2
  go_loopw [6, 39] (fun u v wr => ∃ i : Nat, i ≤ L.length ∧ v = .int .i64 i ∧ u = .int .i64 (endAt L i : Nat) ∧ Below w1.heap.size w1 wr) (fun _ v _ => L.length - (intOf v).toNat)
  case atStart => exact ⟨0, by omega, rfl, rfl, Below.refl _ _⟩
  case round =>
    obtain ⟨i, hi, rfl, rfl, hb⟩ := hrel
    by_cases hlt : i < L.length
    · obtain ⟨T, hTe⟩ : ∃ T, T = tAt L i := ⟨_, rfl⟩
      have HT := Lib.hid hTe
      obtain ⟨b1, o1, rfl, q1, x1, x2, x3⟩ := (HT1.out.keep hb).three i hlt T (by rw [hTe, tAt_get])
      obtain ⟨⟨p2, e1, e2, e3, e4, e5⟩, e6⟩ := HPL.out i hlt
      rw [← hTe] at e1 e3 e5 e6
      have HE2 : Hid (endAt L (i + 1) = p2 + T.text.length) := Lib.hid (by simp only [endAt]; rw [← hTe, e1]; simp)
      have HTR := Lib.hid (fun w => trim_any s hs (endAt L i) p2 e4 w)
      have HPR := Lib.hid (fun w => prefix_any s p2 T.text e5 w)
      have hbls : (bl s).length = s.size := by simp [bl]
      have hps : p2 ≤ s.size := by omega
      have hTl : (bt T.text).size = T.text.length := by show T.text.toArray.size = _; simp
      have hTs : (bt T.text).size ≤ 1500 := by omega
      rw [e1] at x3
      have Hb0 := Lib.hid (hb.alloc hb.size (Obj.cells #[.int .i64 T.kind, .string (bt T.text), .int .i64 p2] 28))
      have HQ0 := Lib.hid (Blk.new wr 28 #[.int .i64 T.kind, .string (bt T.text), .int .i64 p2])
      have HX : Hid (endAt L (i + 1) = p2 + (bt T.text).size) := Lib.hid (by rw [HE2.out, hTl])
      generalize hen : endAt L i = en at *
      generalize bt T.text = TB at *
      generalize hkd : T.kind = kd at *
      have c1 : decide ((p2 : Int) < (en : Int)) = false := decide_eq_false (by omega)
      have c2 : decide ((s.size : Int) < (p2 : Int)) = false := decide_eq_false (by omega)
      have n1 : ¬ p2 < en := by omega
      have n2 : ¬ s.size < p2 := by omega
      have n3 : en ≤ p2 := by omega
      have c3 : (0 : Int) ≤ (en : Int) := by omega
      have c4 : (en : Int) ≤ (p2 : Int) := by omega
      have c5 : (p2 : Int) ≤ (s.size : Int) := by omega
      have c6 : (0 : Int) ≤ (p2 : Int) := by omega
      have c7 : IntKind.i64.wrap ((L.length : Int) - 1) = (L.length : Int) - 1 := IntWalk.i64_in _ (by omega)
      have c8 : IntKind.i64.wrap ((p2 : Int) + (TB.size : Int)) = (p2 : Int) + (TB.size : Int) := IntWalk.i64_in _ (by omega)
      by_cases hl : i + 1 = L.length
      · have k1 : (kd == 3) = true := by rw [beq_iff_eq]; exact e6.2 hl
        have k2 : ((i : Int) == (L.length : Int) - 1) = true := by rw [beq_iff_eq]; omega
        clear hTe e1 e2 e3 e4 e5 e6 hTl hl hen hkd
        go_wp2
        generalize wr.alloc (Obj.cells #[.int .i64 kd, .string TB, .int .i64 p2] 28) = W1 at *
        have HS : Hid (∀ x, Below W1.heap.size W1 x → (Below W1.heap.size W1 x ∧ x.cell? ⟨wr.heap.size, 0, none⟩ = some (.int .i64 kd) ∧ x.cell? ⟨wr.heap.size, 1, none⟩ = some (.string TB) ∧ x.cell? ⟨wr.heap.size, 2, none⟩ = some (.int .i64 p2))) := fun x hx => ⟨hx, (HQ0.out.below hx HQ0.out.lt).cell 0, (HQ0.out.below hx HQ0.out.lt).cell 1, (HQ0.out.below hx HQ0.out.lt).cell 2⟩
        have hk2 : Below W1.heap.size W1 W1.drew := (Below.refl _ _).drew
        obtain ⟨_, f0, f1, f2⟩ := HS.out _ hk2
        (try simp only [List.append_eq, List.cons_append, List.nil_append])
        go_region_held3 (fun x => Below W1.heap.size W1 x ∧ x.cell? ⟨wr.heap.size, 0, none⟩ = some (.int .i64 kd) ∧ x.cell? ⟨wr.heap.size, 1, none⟩ = some (.string TB) ∧ x.cell? ⟨wr.heap.size, 2, none⟩ = some (.int .i64 p2))
          (first | exact HS.out _ (by assumption) | exact HS.out _ (Below.drew (by assumption)))
          (first | (go_at_call 6; refine (HTR.out _).mono ?_; rintro e wz ⟨rfl, hbz⟩; have hk3 := hk2.trans (hbz.mono hk2.size); clear hbz hk2; have hk2 := hk3; clear hk3) | (go_at_call 7; refine (HPR.out _).mono ?_; rintro e wz ⟨rfl, hbz⟩; have hk3 := hk2.trans (hbz.mono hk2.size); clear hbz hk2; have hk2 := hk3; clear hk3))
        rename_i hHeldz
        clear hHeldz f0 f1 f2
        obtain ⟨_, f0, f1, f2⟩ := HS.out _ hk2
        have HB2 := Lib.hid (Hb0.out.trans (hk2.mono Hb0.out.size))
        clear hk2
        go_wp2
        go_roundw
        case rel => exact ⟨i + 1, by omega, by go_num, by rw [HX.out]; go_num, HB2.out⟩
        case measure => simp [intOf]; omega
      · have k1 : (kd == 3) = false := by rw [beq_eq_false_iff_ne]; exact fun h => hl (e6.1 h)
        have k2 : ((i : Int) == (L.length : Int) - 1) = false := by rw [beq_eq_false_iff_ne]; omega
        clear hTe e1 e2 e3 e4 e5 e6 hTl hl hen hkd
        go_wp2
        generalize wr.alloc (Obj.cells #[.int .i64 kd, .string TB, .int .i64 p2] 28) = W1 at *
        have HS : Hid (∀ x, Below W1.heap.size W1 x → (Below W1.heap.size W1 x ∧ x.cell? ⟨wr.heap.size, 0, none⟩ = some (.int .i64 kd) ∧ x.cell? ⟨wr.heap.size, 1, none⟩ = some (.string TB) ∧ x.cell? ⟨wr.heap.size, 2, none⟩ = some (.int .i64 p2))) := fun x hx => ⟨hx, (HQ0.out.below hx HQ0.out.lt).cell 0, (HQ0.out.below hx HQ0.out.lt).cell 1, (HQ0.out.below hx HQ0.out.lt).cell 2⟩
        have hk2 : Below W1.heap.size W1 W1.drew := (Below.refl _ _).drew
        obtain ⟨_, f0, f1, f2⟩ := HS.out _ hk2
        (try simp only [List.append_eq, List.cons_append, List.nil_append])
        go_region_held3 (fun x => Below W1.heap.size W1 x ∧ x.cell? ⟨wr.heap.size, 0, none⟩ = some (.int .i64 kd) ∧ x.cell? ⟨wr.heap.size, 1, none⟩ = some (.string TB) ∧ x.cell? ⟨wr.heap.size, 2, none⟩ = some (.int .i64 p2))
          (first | exact HS.out _ (by assumption) | exact HS.out _ (Below.drew (by assumption)))
          (first | (go_at_call 6; refine (HTR.out _).mono ?_; rintro e wz ⟨rfl, hbz⟩; have hk3 := hk2.trans (hbz.mono hk2.size); clear hbz hk2; have hk2 := hk3; clear hk3) | (go_at_call 7; refine (HPR.out _).mono ?_; rintro e wz ⟨rfl, hbz⟩; have hk3 := hk2.trans (hbz.mono hk2.size); clear hbz hk2; have hk2 := hk3; clear hk3))
        rename_i hHeldz
        clear hHeldz f0 f1 f2
        obtain ⟨_, f0, f1, f2⟩ := HS.out _ hk2
        have HB2 := Lib.hid (Hb0.out.trans (hk2.mono Hb0.out.size))
        clear hk2
        go_wp2
        go_roundw
        case rel => exact ⟨i + 1, by omega, by go_num, by rw [HX.out]; go_num, HB2.out⟩
        case measure => simp [intOf]; omega
    · obtain rfl : i = L.length := by omega
      have Hb2 := Lib.hid (Hb1.out.trans (hb.mono Hb1.out.size))
      have hz : ((endAt L L.length : Nat) : Int) = (s.size : Int) := by rw [HEND.out]
      have hq : (((endAt L L.length : Nat) : Int) == (s.size : Int)) = true := by rw [hz, beq_self_eq_true]
      clear hb hz
      go_wp2_with fail
      refine (HAW.out _).mono ?_
      rintro e w6 ⟨rfl, hb6⟩
      have Hb7 := Lib.hid (Hb2.out.trans (hb6.mono Hb2.out.size))
      clear hb6
      go_wp2
      go_ret
      exact ⟨rfl, Hb7.out⟩
/-- The whole law. -/
theorem places_any (s : ByteArray) (_hs : s.size ≤ 9223372036854775807) (w : World) :
    Calls Tryd.prog 3 #[.string s] w (fun e w' => e = .returned (.bool true) ∧ Below w.heap.size w w') := by
  by_cases h : 1500 < s.size
  · exact places_long s h w
  · by_cases hk : (scanR (bl s)).2.2 = 0
    · exact places_ok s h (scanR (bl s)).1 (scanR (bl s)).2.1 (by rw [← hk]) w
    · exact places_err s h hk w
end Go.Proofs.YtffcahhnaomegaaDoor
