/- Abelian groups: the order of an element divides the exponent, which divides the order. -/
import Derived.Test.YtnfmcdfdbipeoaaGreatDoorZBg
namespace Go.Proofs.YtnfmcdfdbipeoaaGreatDoor
open Go.RowKit Go.Proofs.Num


theorem pr_dvd {G : List ByteArray} (_ : gck fck G = 0) : ∀ n, n ≤ G.length → pz (la G n) ∣ pr G n
  | 0, _ => by unfold la pr; rw [pz_T]; exact Int.dvd_refl _
  | n + 1, hn => by
    show pz (sat G n) ∣ pr G n * pz (sat G n)
    exact Int.dvd_mul_left _ _
theorem rz_dvd {x y : Int} (hy : 0 < y) (h : y ∣ x) : rz x y = 0 := by rw [rz_mod x y hy]; exact Int.emod_eq_zero_of_dvd h
theorem few_T {d : Nat} {z : Int} (h : Few d z) (h1 : 1 ≤ d) (hd : d ≤ 1024) : ck (T z) = 0 ∧ pz (T z) = z := ⟨ck_T h h1 hd, pz_T z⟩
/-- An element is zero exactly if all its residues are. -/
theorem zero_EL (a : Option Addr) (c : Nat) (G : List ByteArray) (F : Nat → Int) (hl : G.length ≤ 4096) (w : World) (h : TsAt w a (EL G F)) :
    Calls Tryz.prog 47 #[.slice a (EL G F).length c] w (fun e w' => e = .returned (.bool (decide (∀ j, j < G.length → F j = 0))) ∧ w = w') := by
  rcases firstBadN (fun j => F j = 0) G.length with h1 | ⟨q, hq, h1, h2⟩
  · rw [decide_eq_true h1]
    exact rzero_true a c (EL G F) (by rw [EL_len]; exact hl) (Lib.hid fun j hj => by rw [EL_len] at hj; rw [EL_sat G F j hj, T_is_zero]; exact decide_eq_true (h1 j hj)) w h
  · rw [decide_eq_false fun hn => h2 (hn q hq)]
    exact rzero_false a c (EL G F) (by rw [EL_len]; exact hl) q (by rw [EL_len]; exact hq) (by rw [EL_sat G F q hq, T_is_zero]; exact decide_eq_false h2) (Lib.hid fun j hj => by rw [EL_sat G F j (by omega), T_is_zero]; exact decide_eq_true (h1 j hj)) w h
/-- The order of an element, by its residues. -/
theorem lc_zero {L G : List ByteArray} (h : gck fck G = 0) (k : Nat) : (∀ j, j < G.length → ((k : Int) * pz (sat L j)) % pz (sat G j) = 0) ↔ lc L G G.length ∣ k := by
  rw [lc_iff]
  exact ⟨fun hh j hj => (od_spec _ _ (by have := (right_at h j hj).2; omega) k).1 (hh j hj), fun hh j hj => (od_spec _ _ (by have := (right_at h j hj).2; omega) k).2 (hh j hj)⟩
def p6 (i : Nat) : Nat := [2, 3, 5, 7, 11, 13].getD i 2
theorem p6_facts (i : Nat) (hi : i < 6) : sat P6 i = T ((p6 i : Nat) : Int) ∧ 2 ≤ p6 i ∧ p6 i ≤ 13 := by
  rcases (show i = 0 ∨ i = 1 ∨ i = 2 ∨ i = 3 ∨ i = 4 ∨ i = 5 by omega) with rfl | rfl | rfl | rfl | rfl | rfl
  · exact ⟨(ts_T (by decide +kernel)).symm, by decide, by decide⟩
  · exact ⟨(ts_T (by decide +kernel)).symm, by decide, by decide⟩
  · exact ⟨(ts_T (by decide +kernel)).symm, by decide, by decide⟩
  · exact ⟨(ts_T (by decide +kernel)).symm, by decide, by decide⟩
  · exact ⟨(ts_T (by decide +kernel)).symm, by decide, by decide⟩
  · exact ⟨(ts_T (by decide +kernel)).symm, by decide, by decide⟩
theorem last_EL (G : List ByteArray) : upto (lastF G.length) G.length = EL G (fun j => if j + 1 = G.length then 1 else 0) := by
  unfold EL upto
  refine List.map_congr_left fun j _ => ?_
  unfold lastF
  by_cases e : j + 1 = G.length
  · rw [if_pos e]; simp only [if_pos e]; exact T_one.symm
  · rw [if_neg e]; simp only [if_neg e]; exact T_naught.symm
theorem last_in {G : List ByteArray} (h : gck fck G = 0) : InR G (fun j => if j + 1 = G.length then 1 else 0) := fun j hj => by
  have := (right_at h j hj).2
  simp only
  split <;> omega
/-- The last residue alone has the exponent as its order. -/
theorem last_lc {G : List ByteArray} (h : gck fck G = 0) : ((lc (EL G (fun j => if j + 1 = G.length then 1 else 0)) G G.length : Nat) : Int) = pz (la G G.length) := by
  have hp := la_pos h G.length (Nat.le_refl _)
  have e : lc (EL G (fun j => if j + 1 = G.length then 1 else 0)) G G.length = (pz (la G G.length)).natAbs := by
    apply Nat.dvd_antisymm
    · exact lc_dvd h G.length (Nat.le_refl _)
    · rcases hn : G.length with _ | m
      · unfold la; rw [pz_T]; exact Nat.one_dvd _
      · have h1 := (lc_iff (EL G (fun j => if j + 1 = G.length then 1 else 0)) G (lc (EL G (fun j => if j + 1 = G.length then 1 else 0)) G G.length) G.length).1 (Nat.dvd_refl _) m (by omega)
        rw [EL_pz G _ m (by omega)] at h1
        simp only [hn, if_true] at h1
        have e2 : od 1 (pz (sat G m)) = (pz (sat G m)).natAbs := by unfold od; simp
        rw [e2] at h1
        exact h1
  rw [e]; omega

set_option maxHeartbeats 1600000 in
/-- The law, for all groups and elements. -/
theorem divides_any (HA : Awake) (a b : Option Addr) (cap c1 : Nat) (G M : List ByteArray) (hG : G.length ≤ 9223372036854775807) (hsz : ∀ j, j < G.length → (sat G j).size ≤ 9223372036854775807) (hsz2 : ∀ j, j < M.length → (sat M j).size ≤ 9223372036854775807) (w : World) (h : TsAt w a G) (h2 : TsAt w b M) (hT : Tab w) :
    Calls Tryz.prog 8 #[.slice a G.length cap, .slice b M.length c1] w (fun e w' => e = .returned (.bool true) ∧ Below w.heap.size w w') := by
  obtain ⟨Q, hQ⟩ : ∃ Q : Bool, Q = decide (fewG G = true ∧ gck fck G = 0 ∧ inC M G = 0) := ⟨_, rfl⟩
  have hb2 : Below w.heap.size w (w.alloc (.cells #[.slice b M.length c1] 22)) := (Below.refl _ _).alloc (Nat.le_refl _) _
  have HR : Calls Tryz.prog 43 #[.slice a G.length cap, .slice (some ⟨w.heap.size, 0, none⟩) 1 1] (w.alloc (.cells #[.slice b M.length c1] 22)) (fun e w' => e = .returned (.bool Q) ∧ Below (w.alloc (.cells #[.slice b M.length c1] 22)).heap.size (w.alloc (.cells #[.slice b M.length c1] 22)) w') := by
    refine right_any a (some ⟨w.heap.size, 0, none⟩) cap 1 1 (by omega) G (fun _ => M) (fun _ => b) (fun _ => c1) hG hsz (fun i hi => hsz2) _ (h.keep hb2) (fun j hj => ?_) (fun i hi => h2.keep hb2) Q ?_
    · obtain rfl : j = 0 := by omega
      exact ⟨w.heap.size, 0, rfl, by rw [World.size_alloc]; omega, cell_of_row _ _ 0 _ 22 (0, 0) (heap_alloc_new w _)⟩
    · rw [hQ, decide_eq_true_iff]
      exact ⟨fun k => ⟨k.1, k.2.1, fun _ _ => k.2.2⟩, fun k => ⟨k.1, k.2.1, k.2.2 0 (by omega)⟩⟩
  by_cases hq : Q = true
  · rw [hq] at HR
    rw [hq] at hQ
    obtain ⟨hf, h0, i1⟩ := of_decide_eq_true hQ.symm
    have hs := short_right h0 hf
    have hl : G.length ≤ 8 := hs.1
    obtain ⟨d, hd⟩ : ∃ d : Nat, d = 30 := ⟨_, rfl⟩
    rw [← hd] at hs
    have hlp := lc_pos (L := M) h0 G.length (Nat.le_refl _)
    have hlf := lc_few (L := M) h0 (d := d) (by omega) hs.2 G.length (Nat.le_refl _)
    have hla := la_right (one := fck) (fun s h => ⟨(fck_zero h).1, by have := (fck_zero h).2; omega⟩) (L := G) (j := G.length) (gck_right h0).2
    have hXf : Few d (pz (lastS G)) := by
      unfold lastS
      rcases hn : G.length with _ | m
      · unfold la; rw [pz_T]; exact few_one (by omega)
      · exact hs.2 m (by omega)
    have hX : lastS G = T (pz (lastS G)) := right_T hla.1
    have hXp : 1 ≤ pz (lastS G) := hla.2
    have hPf : Few (d * 8 + 1) (pr G G.length) := by
      have hh : ∀ n, n ≤ G.length → Few (d * n + 1) (pr G n) := by
        intro n
        induction n with
        | zero => intro _; unfold pr; exact few_one (by omega)
        | succ n ih =>
          intro hn
          have := (ih (by omega)).mul (hs.2 n (by omega))
          unfold pr
          exact this.le (by rw [Nat.mul_add, Nat.mul_one]; omega)
      exact (hh G.length (Nat.le_refl _)).le (by have := Nat.mul_le_mul_left d hl; omega)
    have hte : te (pr G G.length) = 0 := hPf.te (by omega) (by omega)
    have hdl : lc M G G.length ∣ (pz (lastS G)).natAbs := lc_dvd h0 G.length (Nat.le_refl _)
    obtain ⟨n, hn⟩ : ∃ n, n = lc M G G.length := ⟨_, rfl⟩
    have hkn : ck (T (n : Int)) = 0 := ck_T (by rw [hn]; exact hlf) (by omega) (by omega)
    have hpn : pz (T (n : Int)) = n := pz_T _
    obtain ⟨eM, rM⟩ := EL_of h0 i1
    have TI := fun (k : ByteArray) (hk : ck k = 0) (hk2 : k.size ≤ 9223372036854775807) (w : World) (h : TsAt w a G) (h2 : TsAt w b M) (hT : Tab w) => by
      have := times_EL a b cap c1 G k (fun j => pz (sat M j)) h0 hf hsz hk2 hk rM w h (by rw [← eM]; exact h2) hT
      rw [← eM] at this
      exact this
    have hqs : ∀ i, i < 6 → Few d ((n / p6 i : Nat) : Int) := fun i hi => by rw [hn]; exact hlf.of_le (by rw [Int.natAbs_natCast, Int.natAbs_natCast]; exact Nat.div_le_self _ _)
    rw [← hn] at hlp hlf hdl
    refine divides_yes HA a b cap c1 G M w (Lib.hid HR) (T (n : Int)) (lastS G) (T (pr G G.length)) _ (fun i => T ((n / p6 i : Nat) : Int)) (fun i => T ((n / p6 i * p6 i : Nat) : Int)) (fun i => EL G (fun j => (pz (T ((n / p6 i : Nat) : Int)) * pz (sat M j)) % pz (sat G j))) (by omega)
      (Lib.hid fun w h h2 hT => ?_) (Lib.hid fun w h hT => ?_) (Lib.hid fun w h hT => ?_) (Lib.hid fun w hT => ?_) (Lib.hid fun w hT => ?_) (Lib.hid fun w h h2 hT => TI (T (n : Int)) hkn (hlf.size (by omega) (by omega)) w h h2 hT) (Lib.hid fun w a c h => ?_) (Lib.hid fun i hi w hT => ?_) (Lib.hid fun i hi w hT => ?_) (Lib.hid fun i hi => ?_) (Lib.hid fun w d' c h h2 hT => ?_) h h2 hT
    · have := orderOf_any a b cap c1 M G hf hsz hsz2 w h h2 hT
      have e : oeC M G = 0 := by unfold oeC; rw [if_neg (by simp [h0])]; exact i1
      rw [show oeS M G = T (n : Int) by unfold oeS; rw [if_pos e, hn], e] at this
      exact this
    · have := expo_any a cap G (fun _ => hsz) w h hT
      rw [show expS G = lastS G by unfold expS; rw [if_pos h0], h0] at this
      exact this
    · have := order_any a cap G (fun _ => hsz) w h hT
      rw [show ordS G = T (pr G G.length) by unfold ordS; rw [if_pos h0, XS_ok hte], show ordC G = 0 by unfold ordC; rw [if_pos h0, hte]] at this
      exact this
    · have := rem_right (lastS G) (T (n : Int)) hla.1 hkn (by rw [hpn]; omega) w hT
      have e : rz (pz (lastS G)) (n : Int) = 0 := rz_dvd (by omega) (Int.natAbs_dvd_natAbs.1 (by rw [Int.natAbs_natCast]; exact hdl))
      rw [hpn, e, T_naught] at this
      exact this
    · have := remT (pr G G.length) (pz (lastS G)) w hPf (hXf.le (by omega)) (by omega) (by omega) (by omega) hT
      have e : rz (pr G G.length) (pz (lastS G)) = 0 := rz_dvd (by omega) (pr_dvd h0 G.length (Nat.le_refl _))
      rw [e, T_naught, ← hX] at this
      exact this
    · have := zero_EL a c G (fun j => (pz (T (n : Int)) * pz (sat M j)) % pz (sat G j)) (by omega) w h
      rw [decide_eq_true (by rw [hpn]; rw [hn]; exact (lc_zero h0 _).2 (Nat.dvd_refl _))] at this
      exact this
    · have hp := p6_facts i hi
      have := quoT (n : Int) ((p6 i : Nat) : Int) w hlf ((few_small (z := ((p6 i : Nat) : Int)) (by omega)).le (by omega)) (by omega) (by omega) (by omega) hT
      rw [qz_nat _ _ (by omega), ← hp.1] at this
      exact this
    · have hp := p6_facts i hi
      have := mulT ((n / p6 i : Nat) : Int) ((p6 i : Nat) : Int) w (hqs i hi) ((few_small (z := ((p6 i : Nat) : Int)) (by omega)).le (by omega)) (by omega) (by omega) hT
      rw [← Int.natCast_mul, ← hp.1] at this
      exact this
    · have hp := p6_facts i hi
      by_cases hm : n / p6 i * p6 i = n
      · right
        have hpos : 0 < n / p6 i := Nat.pos_of_ne_zero fun h3 => by rw [h3, Nat.zero_mul] at hm; omega
        have hlt : n / p6 i < n := Nat.div_lt_self hlp (by omega)
        have hkq : ck (T ((n / p6 i : Nat) : Int)) = 0 := ck_T (hqs i hi) (by omega) (by omega)
        refine ⟨by rw [hm], fun w h h2 hT => TI _ hkq ((hqs i hi).size (by omega) (by omega)) w h h2 hT, fun w a c h => ?_⟩
        have := zero_EL a c G (fun j => (pz (T ((n / p6 i : Nat) : Int)) * pz (sat M j)) % pz (sat G j)) (by omega) w h
        rw [decide_eq_false (fun hh => by
          rw [pz_T] at hh
          have h5 := (lc_zero (L := M) h0 _).1 hh
          rw [← hn] at h5
          have := Nat.le_of_dvd hpos h5
          omega)] at this
        exact this
      · left
        cases hb : ((T ((n / p6 i * p6 i : Nat) : Int)).toList == (T (n : Int)).toList) with
        | false => rfl
        | true =>
          exfalso
          apply hm
          have e1 : T ((n / p6 i * p6 i : Nat) : Int) = T (n : Int) := by
            apply ByteArray.ext; apply Array.ext'
            rw [← Lib.toList_data, ← Lib.toList_data]
            exact eq_of_beq hb
          have e2 := congrArg pz e1
          rw [pz_T, pz_T] at e2
          omega
    · have e := last_EL G
      rw [e] at h2
      have hin := EL_in h0 (last_in h0)
      have := orderOf_any a d' cap c (EL G (fun j => if j + 1 = G.length then 1 else 0)) G hf hsz (EL_size h0 (last_in h0)) w h h2 hT
      have e2 : oeC (EL G (fun j => if j + 1 = G.length then 1 else 0)) G = 0 := by unfold oeC; rw [if_neg (by simp [h0])]; exact hin
      rw [show oeS (EL G (fun j => if j + 1 = G.length then 1 else 0)) G = lastS G by unfold oeS; rw [if_pos e2, last_lc h0]; exact hX.symm, e2, EL_len] at this
      exact this
  · rw [show Q = false by simpa using hq] at HR
    exact divides_no_r HA a b cap c1 G M w (Lib.hid HR) hT

end Go.Proofs.YtnfmcdfdbipeoaaGreatDoor
