/- LexerJoins: the text or the error of Join is the reference's, for all lists of tokens. -/
import Derived.Test.YtffcahhnaomegaaLw
import Derived.Test.YtffcahhnaomegaaMc
namespace Go.Proofs.Ytffcahhnaomegaa
open Go.RowKit Go.Proofs.Lx

theorem few_texts {L : List Tk} (h : fewB L = true) (hl : L.length ≤ 4097) : L.length ≤ 200 ∧ ∀ j, j < L.length → (tAt L j).text.length ≤ 2048 := by
  unfold fewB at h
  by_cases h1 : 200 < L.length
  · rw [if_pos h1, decide_eq_true_eq] at h; omega
  · rw [if_neg h1, List.all_eq_true] at h
    refine ⟨by omega, fun j hj => ?_⟩
    have := h _ (List.getElem_mem hj)
    rw [tAt_get L j hj] at this
    unfold okT at this
    simp only [Bool.or_eq_true, Bool.and_eq_true, decide_eq_true_eq] at this
    omega
theorem pjoin_any (a : Option Addr) (cap : Nat) (L : List Tk) (h : fewB L = true) (w : World) (ht : TkAt w a L) : Calls Try.prog 14 #[.slice a L.length cap] w (GivesS w (joinR L)) := by
  by_cases hl : 4097 < L.length
  · refine (pjoin_many a cap L.length hl w).mono ?_
    rintro e w' ⟨rfl, rfl⟩
    unfold joinR
    rw [if_pos hl]
    exact ⟨rfl, Below.refl _ _⟩
  · obtain ⟨h1, h2⟩ := few_texts h (by omega)
    exact pjoin_few a cap L (by omega) (fun j hj => by have := h2 j hj; omega) w ht
theorem rjoin_any (a : Option Addr) (cap : Nat) (L : List Tk) (h : fewB L = true) (w : World) (ht : TkAt w a L) : Calls Try.prog 15 #[.slice a L.length cap] w (GivesS w (joinR L)) := by
  by_cases hl : 4097 < L.length
  · refine (rjoin_many a cap L.length hl w).mono ?_
    rintro e w' ⟨rfl, rfl⟩
    unfold joinR
    rw [if_pos hl]
    exact ⟨rfl, Below.refl _ _⟩
  · obtain ⟨h1, h2⟩ := few_texts h (by omega)
    exact rjoin_few a cap L (by omega) (fun j hj => by have := h2 j hj; omega) w ht

set_option maxHeartbeats 6400000 in
set_option maxRecDepth 100000 in
/-- The whole law. -/
theorem joins_any (a : Option Addr) (cap : Nat) (L : List Tk) (w : World) (h : TkAt w a L) :
    Calls Try.prog 4 #[.slice a L.length cap] w (fun e w' => e = .returned (.bool true) ∧ Below w.heap.size w w') := by
  have HAW := Lib.hid awake_any
  have HF := Lib.hid (rfew_any a cap L w h)
  have H := Lib.hid h
  rcases hf : fewB L with _ | _
  · rw [hf] at HF
    clear h hf
    go_enter Try.func4, Try.ntmps4
    go_wp2_with fail
    refine HF.out.mono ?_
    rintro e w1 ⟨rfl, rfl⟩
    go_wp2_with fail
    refine (HAW.out _).mono ?_
    rintro e w1 ⟨rfl, hb⟩
    go_wp2
    go_ret
    exact ⟨rfl, hb⟩
  · rw [hf] at HF
    have H1 := Lib.hid (fun w h => pjoin_any a cap L hf w h)
    have H2 := Lib.hid (fun w h => rjoin_any a cap L hf w h)
    unfold GivesS at H1 H2
    generalize bt (joinR L).1 = s at *
    generalize (joinR L).2 = k at *
    clear h hf
    go_enter Try.func4, Try.ntmps4
    go_wp2_with fail
    refine HF.out.mono ?_
    rintro e w1 ⟨rfl, rfl⟩
    go_wp2_with fail
    refine (H1.out _ H.out).mono ?_
    rintro e w1 ⟨rfl, hb1⟩
    have Hb1 := Lib.hid hb1
    clear hb1
    go_wp2_with fail
    refine (H2.out _ (H.out.keep Hb1.out)).mono ?_
    rintro e w2 ⟨rfl, hb2⟩
    have Hb2 := Lib.hid (Hb1.out.trans (hb2.mono Hb1.out.size))
    clear hb2
    go_wp2_with fail
    refine (HAW.out _).mono ?_
    rintro e w3 ⟨rfl, hb3⟩
    have Hb3 := Lib.hid (Hb2.out.trans (hb3.mono Hb2.out.size))
    clear hb3
    go_wp2
    go_ret
    exact ⟨rfl, Hb3.out⟩
end Go.Proofs.Ytffcahhnaomegaa
