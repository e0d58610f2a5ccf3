/- Abelian groups: diagonals with further ones; sums of lists. -/
import Derived.Test.YtnfmcdfdbipeoaaGreatDoorQ35
import Derived.Test.YtnfmcdfdbipeoaaGreatDoorZBc
import Derived.Laws.AppendOwnNone
namespace Go.Proofs.YtnfmcdfdbipeoaaGreatDoor
open Go.RowKit Go.Proofs.Num

/-- A text that is appended to a list that the call owns, nil or not. -/
theorem wpList_append_ts {P : Program} {w : World} {ops : Array Oper} {rest : List Oper} {o : Oper} {a : Act} {Q : Exit → Act → World → Prop} (hgd : o.guard = none) (s x : Operand) (t : TypeId)
    (ho : o.op = .call { callee := .builtin .append, args := #[s, x], argTypes := #[t, t] })
    (base : Nat) (e : TypeId) (i : TypeInfo) (z : Value) (bytes : Nat) (ht : P.underlying t = some (.slice e)) (hi : P.info? e = some i) (hz : i.zero = some z)
    (hsize : i.size = 1) (hby : i.bytes = bytes) (hzs : z.cells.size = 1)
    (v : Value) (n : Nat) (xs : List Value) (hs : a.eval s = v) (hown : w.ownsRow base e 1 v n xs)
    (ad : Option Addr) (c : Nat) (L : List ByteArray) (hx : a.eval x = .slice ad L.length c) (hts : TsAt w ad L)
    (h63 : n + L.length ≤ maxLen) (hbytes : (n + L.length) * bytes ≤ 140737488355328) (hbase : base ≤ w.heap.size)
    (h : ∀ v' w', w'.ownsRow base e 1 v' (n + L.length) (xs ++ strs L) → w.grownBy w' v.ownBlock → wpList P ops Q rest (a.put o.dst v') w') : wpList P ops Q (o :: rest) a w := by
  have hone : ∀ u ∈ strs L, u.oneCell' = true := fun u hu => by
    unfold strs at hu
    obtain ⟨y, -, rfl⟩ := List.mem_map.1 hu
    simp [Value.oneCell']
  rcases L with _ | ⟨y, L'⟩
  · rcases ad with _ | ad
    · refine wpList_plain hgd fun K hK => ?_
      have hrun := run_append_none_cap (P := P) w base t o.type e i 1 ht hi v n c xs hown
      unfold Oper.wp
      have hx' : a.eval x = .slice none 0 c := hx
      simp [execOp, ho, resolve, invoke, builtin, hs, hx', hrun, Result.andThen]
      exact hK _ _ (h v w (by simpa [strs] using hown) (World.grownBy.refl _ _))
    · exact wpList_append_own w hgd s x t ho base e i z 1 bytes ht hi hz hsize hby hzs (by omega) v n xs hs hown ad 0 c [] hx (by simp) (by simp) (by simp) h63 hbytes hbase
        (fun v' w' h1 h2 _ => h v' w' h1 h2)
  · obtain ⟨b, off, rfl, hlt, -⟩ := hts 0 (by simp)
    exact wpList_append_own w hgd s x t ho base e i z 1 bytes ht hi hz hsize hby hzs (by omega) v n xs hs hown ⟨b, off, none⟩ (y :: L').length c (strs (y :: L')) hx (by rw [strs_len, Nat.mul_one])
      (fun j u hj => by
        have hj' : j < (y :: L').length := by have := (List.getElem?_eq_some_iff.1 hj).1; rwa [strs_len] at this
        rw [strs_at _ j hj'] at hj
        cases hj
        obtain ⟨b', off', he, _, hc⟩ := hts j hj'
        simp only [Option.some.injEq, Addr.mk.injEq, and_true] at he
        obtain ⟨rfl, rfl⟩ := he
        by_cases h0 : j = 0
        · subst h0; simpa [Addr.add] using hc
        · simpa [Addr.add, h0] using hc)
      hone h63 hbytes hbase (fun v' w' h1 h2 _ => h v' w' h1 h2)

def one1 : ByteArray := ⟨#[49]⟩
/-- A group with two further ones. -/
def onesG (G : List ByteArray) : List ByteArray := [one1, one1] ++ G
theorem pz_one1 : pz one1 = 1 := by unfold one1; rw [← T_one, pz_T]
theorem dck_one1 : dck one1 = 0 := by decide +kernel
theorem sat_onesG (G : List ByteArray) (j : Nat) : sat (onesG G) (j + 2) = sat G j := by
  show sat (one1 :: one1 :: G) (j + 1 + 1) = _
  rw [sat_succ, sat_succ]
theorem la_onesG (G : List ByteArray) (j : Nat) : pz (la (onesG G) (j + 2)) = pz (la G j) := by
  rcases j with _ | j
  · show pz (sat (one1 :: one1 :: G) 1) = pz (T 1)
    rw [show (1 : Nat) = 0 + 1 from rfl, sat_succ, sat_zero, pz_one1, pz_T]
  · show pz (sat (onesG G) (j + 2)) = pz (sat G j)
    rw [sat_onesG]
theorem gck_onesG {G : List ByteArray} (h : gck fck G = 0) (hl : G.length ≤ 14) : gck dck (onesG G) = 0 := by
  have hlen : (onesG G).length = G.length + 2 := by unfold onesG; simp
  have H : ∀ q, q < (onesG G).length → dck (sat (onesG G) q) = 0 ∧ rz (pz (sat (onesG G) q)) (pz (la (onesG G) q)) = 0 := by
    intro q hq
    rcases q with _ | _ | j
    · refine ⟨dck_one1, ?_⟩
      show rz (pz one1) (pz (T 1)) = 0
      rw [pz_one1, pz_T]; decide
    · refine ⟨dck_one1, ?_⟩
      show rz (pz one1) (pz one1) = 0
      rw [pz_one1]; decide
    · have hj : j < G.length := by omega
      have h1 := right_at h j hj
      rw [sat_onesG, la_onesG]
      refine ⟨?_, ((gck_right h).2 j hj).2⟩
      unfold dck
      rw [if_neg (by simp [h1.1]), if_neg (by omega), if_neg (by omega)]
  rcases gck_ways dck (onesG G) (by omega) with ⟨e, -⟩ | ⟨q, hq, -, ⟨h1, -⟩ | ⟨-, h2, -⟩⟩
  · exact e
  · exact absurd (H q hq).1 h1
  · exact absurd (H q hq).2 h2
theorem ofL_onesG {G : List ByteArray} (h : gck fck G = 0) (hl : G.length ≤ 14) : ofL (onesG G) = G := by
  unfold ofL
  rw [if_pos (gck_onesG h hl)]
  unfold ones onesG
  rw [List.filter_append, show List.filter keep [one1, one1] = [] by decide +kernel, List.nil_append]
  refine List.filter_eq_self.2 fun s hs => ?_
  obtain ⟨j, hj, rfl⟩ := List.getElem_of_mem hs
  have h1 := right_at h j hj
  rw [sat_get G j hj] at h1
  unfold keep
  cases hb : (G[j].toList == [49]) with
  | false => rfl
  | true =>
    exfalso
    have e : G[j] = one1 := by
      apply ByteArray.ext; apply Array.ext'
      rw [← Lib.toList_data]
      have hb2 : G[j].toList = [49] := by simpa using hb
      exact hb2
    rw [e, pz_one1] at h1
    omega
/-- few of two lists. -/
theorem few_two (b d : Option Addr) (c1 c2 : Nat) (L M : List ByteArray) (hL : L.length ≤ 9223372036854775807) (hM : M.length ≤ 9223372036854775807) (hsz : ∀ j, j < L.length → (sat L j).size ≤ 9223372036854775807) (hsz2 : ∀ j, j < M.length → (sat M j).size ≤ 9223372036854775807) (W : World) (h1 : TsAt W b L) (h2 : TsAt W d M) :
    Calls Tryz.prog 12 #[.slice (some ⟨W.heap.size, 0, none⟩) 2 2] (W.alloc (.cells #[.slice b L.length c1, .slice d M.length c2] 22)) (fun e w' => e = .returned (.bool (fewL L && fewL M)) ∧ W.alloc (.cells #[.slice b L.length c1, .slice d M.length c2] 22) = w') := by
  have hb : Below W.heap.size W (W.alloc (.cells #[.slice b L.length c1, .slice d M.length c2] 22)) := (Below.refl _ _).alloc (Nat.le_refl _) _
  have hcell : ∀ j v, (#[Value.slice b L.length c1, .slice d M.length c2] : Array Value)[j]? = some v → (W.alloc (.cells #[.slice b L.length c1, .slice d M.length c2] 22)).cell? ⟨W.heap.size, j, none⟩ = some v := by
    intro j v hv
    rw [cell_of_row _ _ j _ 22 (0, 0) (heap_alloc_new _ _), ← hv]
  refine few_any (some ⟨W.heap.size, 0, none⟩) 2 2 (by omega) (fun j => if j = 0 then .slice b L.length c1 else .slice d M.length c2) (fun j => if j = 0 then fewL L else fewL M)
    (fun j => ?_) _ (fun j hj => ?_) (fun j hj => ?_) _ ?_
  · by_cases e0 : j = 0
    · exact ⟨b, L.length, c1, by simp [e0]⟩
    · exact ⟨d, M.length, c2, by simp [e0]⟩
  · refine ⟨W.heap.size, 0, rfl, by rw [World.size_alloc]; omega, ?_⟩
    rw [Nat.zero_add]
    refine hcell j _ ?_
    rcases (show j = 0 ∨ j = 1 by omega) with rfl | rfl <;> rfl
  · rcases (show j = 0 ∨ j = 1 by omega) with rfl | rfl
    · exact few1_any b c1 L hL hsz _ (h1.keep hb)
    · exact few1_any d c2 M hM hsz2 _ (h2.keep hb)
  · rw [Bool.and_eq_true]
    constructor
    · rintro ⟨k1, k2⟩ j hj
      rcases (show j = 0 ∨ j = 1 by omega) with rfl | rfl
      · exact k1
      · exact k2
    · intro h
      exact ⟨h 0 (by omega), h 1 (by omega)⟩

theorem few_short {L : List ByteArray} (h : fewL L = true) (j : Nat) (hj : j < L.length) (hc : ck (sat L j) = 0) : Few 60 (pz (sat L j)) := by
  unfold fewL at h
  simp only [Bool.and_eq_true, Bool.not_eq_true', decide_eq_true_eq] at h
  have h1 : fewB (sat L j) = true := by
    cases hb : fewB (sat L j) with
    | true => rfl
    | false =>
      have := (anyLong_iff L).2 ⟨j, hj, by rw [hb]; rfl⟩
      rw [h.2] at this
      cases this
  unfold fewB at h1
  simp only [Bool.or_eq_true, Bool.and_eq_true, decide_eq_true_eq] at h1
  rcases h1 with h1 | ⟨-, h1⟩
  · exact few_size _ hc 60 h1
  · have : ck (sat L j) = 3 := h1
    omega
theorem elem_EL (a b : Option Addr) (cap c1 : Nat) (L G : List ByteArray) (hG : gck fck G = 0) (hsz : ∀ j, j < G.length → (sat G j).size ≤ 9223372036854775807) (hsz2 : ∀ j, j < L.length → (sat L j).size ≤ 9223372036854775807) (hl : L.length = G.length) (hc : ∀ j, j < G.length → ck (sat L j) = 0) (w : World) (h : TsAt w a G) (h2 : TsAt w b L) (hT : Tab w) :
    Calls Tryz.prog 20 #[.slice a G.length cap, .slice b L.length c1] w (GivesTs w (EL G (fun j => pz (sat L j) % pz (sat G j))) 0) := by
  have := elem_any a b cap c1 L G (fun _ => hsz) hsz2 w h h2 hT
  have e : eleC L G = 0 := by
    unfold eleC
    rw [if_neg (by simp [hG]), if_neg (by simp [hl])]
    rcases elc_ways L G G.length with ⟨e1, _⟩ | ⟨q, hq, _, h4, _⟩
    · exact e1
    · exact absurd (hc q hq) h4
  rw [show eleL L G = EL G (fun j => pz (sat L j) % pz (sat G j)) by
    unfold eleL
    rw [if_pos e]
    unfold EL upto
    refine List.map_congr_left fun j hj => ?_
    have hj' := List.mem_range.1 hj
    show T (rz (pz (sat L j)) (pz (sat G j))) = _
    rw [rz_mod _ _ (by have := (right_at hG j hj').2; omega)], e] at this
  exact this

end Go.Proofs.YtnfmcdfdbipeoaaGreatDoor
