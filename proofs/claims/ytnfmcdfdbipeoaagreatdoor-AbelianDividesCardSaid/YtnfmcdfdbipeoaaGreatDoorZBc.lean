/- Abelian groups: elements by their residues. -/
import Derived.Test.YtnfmcdfdbipeoaaGreatDoorZAz
import Derived.Test.YtnfmcdfdbipeoaaGreatDoorZBb
namespace Go.Proofs.YtnfmcdfdbipeoaaGreatDoor
open Go.RowKit Go.Proofs.Num

/-- The element with these residues. -/
def EL (G : List ByteArray) (F : Nat → Int) : List ByteArray := upto (fun j => T (F j)) G.length
def InR (G : List ByteArray) (F : Nat → Int) : Prop := ∀ j, j < G.length → 0 ≤ F j ∧ F j < pz (sat G j)
theorem EL_len (G : List ByteArray) (F : Nat → Int) : (EL G F).length = G.length := upto_len _ _
theorem EL_sat (G : List ByteArray) (F : Nat → Int) (j : Nat) (hj : j < G.length) : sat (EL G F) j = T (F j) := sat_upto _ _ j hj
theorem EL_pz (G : List ByteArray) (F : Nat → Int) (j : Nat) (hj : j < G.length) : pz (sat (EL G F) j) = F j := by rw [EL_sat G F j hj, pz_T]
theorem EL_congr {G : List ByteArray} {F H : Nat → Int} (h : ∀ j, j < G.length → F j = H j) : EL G F = EL G H := by
  unfold EL upto
  refine List.map_congr_left fun j hj => ?_
  rw [h j (List.mem_range.1 hj)]
theorem InR.few {G : List ByteArray} {F : Nat → Int} (h : InR G F) {d : Nat} (hs : ∀ j, j < G.length → Few d (pz (sat G j))) (j : Nat) (hj : j < G.length) : Few d (F j) := (hs j hj).of_le (by have := h j hj; omega)
theorem InR.mod (G : List ByteArray) (hG : gck fck G = 0) (F : Nat → Int) : InR G (fun j => F j % pz (sat G j)) := fun j hj => by
  have := (right_at hG j hj).2
  exact ⟨Int.emod_nonneg _ (by omega), Int.emod_lt_of_pos _ (by omega)⟩
theorem EL_in {G : List ByteArray} (hG : gck fck G = 0) {F : Nat → Int} (h : InR G F) : inC (EL G F) G = 0 := by
  unfold inC
  rw [if_neg (by rw [EL_len]; simp)]
  rcases fer_ways (ie (EL G F) G) G.length with ⟨h1, _⟩ | ⟨q, hq, _, h1, _⟩
  · exact h1
  · exfalso
    apply h1
    obtain ⟨d, hd⟩ : ∃ d : Nat, d = 1024 := ⟨_, rfl⟩
    have hr := right_at hG q hq
    have hf : Few d (F q) := (right_few hr.1 d hd).of_le (by have := h q hq; omega)
    unfold ie
    rw [EL_sat G F q hq, if_neg (by rw [ck_T hf (by omega) (by omega)]; simp), pz_T, if_neg (by rw [(rz_self _ _ (by omega)).2 (h q hq)]; simp)]
theorem EL_size {G : List ByteArray} (hG : gck fck G = 0) {F : Nat → Int} (h : InR G F) (j : Nat) (hj : j < (EL G F).length) : (sat (EL G F) j).size ≤ 9223372036854775807 := by
  rw [EL_len] at hj
  obtain ⟨d, hd⟩ : ∃ d : Nat, d = 1024 := ⟨_, rfl⟩
  rw [EL_sat G F j hj]
  exact ((right_few (right_at hG j hj).1 d hd).of_le (x := F j) (by have := h j hj; omega)).size (by omega) (by omega)
theorem list_sat : ∀ (L : List ByteArray) (n : Nat), L.length = n → L = upto (sat L) n := by
  intro L n hn
  apply List.ext_getElem
  · rw [upto_len]; exact hn
  · intro i h1 h2
    rw [← sat_get L i h1, ← sat_get (upto (sat L) n) i h2, sat_upto _ _ i (by omega)]
/-- An element is the one with its residues. -/
theorem EL_of {L G : List ByteArray} (hG : gck fck G = 0) (h : inC L G = 0) : L = EL G (fun j => pz (sat L j)) ∧ InR G (fun j => pz (sat L j)) := by
  have h1 := in_right h
  refine ⟨?_, fun j hj => (in_range hG h j hj).2⟩
  refine (list_sat L G.length h1.1).trans ?_
  unfold EL upto
  refine List.map_congr_left fun j hj => ?_
  exact right_T (h1.2 j (List.mem_range.1 hj)).1

theorem add_EL (a b d' : Option Addr) (cap c1 c2 : Nat) (G : List ByteArray) (F H : Nat → Int) (hG : gck fck G = 0) (hf : fewG G = true) (hsz : ∀ j, j < G.length → (sat G j).size ≤ 9223372036854775807) (hF : InR G F) (hH : InR G H) (w : World) (h : TsAt w a G) (h2 : TsAt w b (EL G F)) (h3 : TsAt w d' (EL G H)) (hT : Tab w) :
    Calls Tryz.prog 32 #[.slice a G.length cap, .slice b (EL G F).length c1, .slice d' (EL G H).length c2] w (GivesTs w (EL G (fun j => (F j + H j) % pz (sat G j))) 0) := by
  have := add_any' a b d' cap c1 c2 (EL G F) (EL G H) G hf hsz (EL_size hG hF) (EL_size hG hH) w h h2 h3 hT
  have e : adC (EL G F) (EL G H) G = 0 := by unfold adC; rw [if_neg (by simp [hG]), if_neg (by simp [EL_in hG hF])]; exact EL_in hG hH
  rw [show adL (EL G F) (EL G H) G = EL G (fun j => (F j + H j) % pz (sat G j)) by
    unfold adL
    rw [if_pos e]
    unfold EL upto
    refine List.map_congr_left fun j hj => ?_
    have hj' := List.mem_range.1 hj
    show T (rz (pz (sat (EL G F) j) + pz (sat (EL G H) j)) (pz (sat G j))) = _
    rw [EL_pz G F j hj', EL_pz G H j hj', rz_mod _ _ (by have := (right_at hG j hj').2; omega)], e] at this
  exact this
theorem neg_EL (a b : Option Addr) (cap c1 : Nat) (G : List ByteArray) (F : Nat → Int) (hG : gck fck G = 0) (hf : fewG G = true) (hsz : ∀ j, j < G.length → (sat G j).size ≤ 9223372036854775807) (hF : InR G F) (w : World) (h : TsAt w a G) (h2 : TsAt w b (EL G F)) (hT : Tab w) :
    Calls Tryz.prog 34 #[.slice a G.length cap, .slice b (EL G F).length c1] w (GivesTs w (EL G (fun j => (-1 * F j) % pz (sat G j))) 0) := by
  have := neg_any' a b cap c1 (EL G F) G hf hsz (EL_size hG hF) w h h2 hT
  have e : oeC (EL G F) G = 0 := by unfold oeC; rw [if_neg (by simp [hG])]; exact EL_in hG hF
  rw [show ngL (EL G F) G = EL G (fun j => (-1 * F j) % pz (sat G j)) by
    unfold ngL
    rw [if_pos e]
    unfold EL upto
    refine List.map_congr_left fun j hj => ?_
    have hj' := List.mem_range.1 hj
    show T (rz (-1 * pz (sat (EL G F) j)) (pz (sat G j))) = _
    rw [EL_pz G F j hj', rz_mod _ _ (by have := (right_at hG j hj').2; omega)], e] at this
  exact this
theorem times_EL (a b : Option Addr) (cap c1 : Nat) (G : List ByteArray) (s : ByteArray) (F : Nat → Int) (hG : gck fck G = 0) (hf : fewG G = true) (hsz : ∀ j, j < G.length → (sat G j).size ≤ 9223372036854775807) (hs : s.size ≤ 9223372036854775807) (hk : ck s = 0) (hF : InR G F) (w : World) (h : TsAt w a G) (h2 : TsAt w b (EL G F)) (hT : Tab w) :
    Calls Tryz.prog 36 #[.slice a G.length cap, .string s, .slice b (EL G F).length c1] w (GivesTs w (EL G (fun j => (pz s * F j) % pz (sat G j))) 0) := by
  have := times_any' a b cap c1 (EL G F) G s hf hsz (EL_size hG hF) hs w h h2 hT
  have e : tmC s (EL G F) G = 0 := by unfold tmC; rw [if_neg (by simp [hG]), if_neg (by simp [hk])]; exact EL_in hG hF
  rw [show tmL s (EL G F) G = EL G (fun j => (pz s * F j) % pz (sat G j)) by
    unfold tmL
    rw [if_pos e]
    unfold EL upto
    refine List.map_congr_left fun j hj => ?_
    have hj' := List.mem_range.1 hj
    show T (rz (pz s * pz (sat (EL G F) j)) (pz (sat G j))) = _
    rw [EL_pz G F j hj', rz_mod _ _ (by have := (right_at hG j hj').2; omega)], e] at this
  exact this

end Go.Proofs.YtnfmcdfdbipeoaaGreatDoor
