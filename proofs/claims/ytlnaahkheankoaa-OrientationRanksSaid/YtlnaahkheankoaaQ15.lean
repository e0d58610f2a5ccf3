/- Collections: maps from pairs of numbers to numbers. -/
import Derived.Test.YtlnaahkheankoaaQ07
import Derived.Maps.OwnOps
import Derived.Maps.RangeWalk
import Derived.DeepKeys4
import Derived.WideKeyPair
namespace Go.Proofs.Ytlnaahkheankoaa
open Go.RowKit Go.Shelf Go.Proofs.Gr Go.Maps Go.WideMaps

theorem exists_succ_of_lt {a n : Nat} (h : a < n) : ∃ m, n = m + 1 := ⟨n - 1, by omega⟩
theorem laidOut : laidOutB Try.prog = true := by kernel_rfl
theorem rowK : (85 : TypeId) < Try.prog.types.size := of_decide_eq_true (by kernel_rfl)
theorem arrK : ArrKey Try.prog 85 3 2 := ⟨Try.underlying85, by kernel_rfl, by kernel_rfl, by kernel_rfl⟩
theorem wideK : (match Try.prog.underlying 85 with | some (.array _ _) | some (.struct _) => true | _ => false) = true := by rw [Try.underlying85]
set_option maxRecDepth 100000 in
theorem lawK0 : KeyLaw Try.prog 85 := deep_law_laid laidOut (m := 2) (by omega) rowK (by kernel_rfl) wideK
theorem lawK : Keyed Try.prog 85 := Keyed.of_law lawK0
set_option maxRecDepth 100000 in
theorem sizeK : ∃ m, Try.prog.types.size = m + 1 := exists_succ_of_lt rowK
abbrev W64 (z : Int) : Prop := (Lit.int .i64 z).wf = true
theorem w64_of {z : Int} (h : -9223372036854775808 ≤ z) (k : z ≤ 9223372036854775807) : W64 z := WalkArith.wf_i64 (by omega)
/-- A key, as a value and as it reads. -/
def pv (p : Int × Int) : Value := .agg #[.int .i64 p.1, .int .i64 p.2]
def kl (p : Int × Int) : Lit := .string (keyBytes [.int .i64 p.1, .int .i64 p.2])
theorem kl_key (p : Int × Int) : WideAt.IsKeyLit (kl p) := by unfold kl; exact trivial
theorem key_pv (p : Int × Int) (h1 : W64 p.1) (h2 : W64 p.2) : keyOf Try.prog 85 (pv p) = some (kl p) := keyOf_pair arrK Try.underlying3 sizeK h1 h2
theorem kl_inj {p q : Int × Int} (h1 : W64 p.1) (h2 : W64 p.2) (h3 : W64 q.1) (h4 : W64 q.2) (h : kl p = kl q) : p = q := by
  have h5 := lawK.inj (key_pv p h1 h2) (h ▸ key_pv q h3 h4)
  unfold pv at h5
  injection h5 with h5
  have h6 := Array.toList_inj.2 h5
  injection h6 with h7 h8
  injection h7 with _ h7
  injection h8 with h8 _
  injection h8 with _ h8
  exact Prod.ext h7 h8
section
variable {P : Program} {k e : TypeId}
theorem lits_int (he : P.underlying e = some (.int .i64)) {d : Nat} {cs : List Value} {ys : List Lit} (h : P.keyLits (d + 1) e cs = some ys) : ∃ z, cs = [.int .i64 z] ∧ ys = [.int .i64 z] ∧ W64 z := by
  unfold Program.keyLits at h
  rw [he] at h
  match cs, h with
  | [.int q z], h =>
    simp only [Option.ite_none_right_eq_some] at h
    obtain ⟨⟨rfl, h1⟩, h2⟩ := h
    injection h2 with h2
    exact ⟨z, rfl, h2.symm, h1⟩
theorem lits_pair (A : ArrKey P k e 2) (he : P.underlying e = some (.int .i64)) {d : Nat} {cs : List Value} {ys : List Lit} (h : P.keyLits (d + 2) k cs = some ys) : ∃ p : Int × Int, cs = [.int .i64 p.1, .int .i64 p.2] ∧ ys = [.int .i64 p.1, .int .i64 p.2] ∧ W64 p.1 ∧ W64 p.2 := by
  unfold Program.keyLits at h
  rw [A.hu] at h
  simp only [A.size, A.one] at h
  split at h
  · rename_i hlen
    rw [show List.range 2 = [0, 1] from rfl, List.mapM_cons, List.mapM_cons, List.mapM_nil] at h
    simp only [bind, Option.bind_eq_some_iff, pure, Option.some.injEq, Option.map_eq_some_iff] at h
    obtain ⟨_, ⟨y0, h0, _, ⟨y1, h1, _, rfl, rfl⟩, rfl⟩, rfl⟩ := h
    obtain ⟨z0, e0, rfl, w0⟩ := lits_int he h0
    obtain ⟨z1, e1, rfl, w1⟩ := lits_int he h1
    match cs, hlen with
    | [c0, c1], _ =>
      simp at e0 e1
      exact ⟨(z0, z1), by rw [e0, e1], rfl, w0, w1⟩
  · cases h
theorem formed_agg (A : ArrKey P k e 2) {v : Value} (h : v.formed P k = true) : ∃ xs, v = .agg xs := by
  unfold Value.formed at h
  rw [A.hu] at h
  cases v <;> simp at h
  exact ⟨_, rfl⟩
theorem key_inv' (A : ArrKey P k e 2) (he : P.underlying e = some (.int .i64)) (hs : ∃ m, P.types.size = m + 1) {v : Value} {l : Lit} (h : keyOf P k v = some l) : ∃ p, v = pv p ∧ l = kl p ∧ W64 p.1 ∧ W64 p.2 := by
  obtain ⟨m, hm⟩ := hs
  unfold keyOf at h
  rw [A.hu] at h
  simp only [] at h
  split at h
  · rename_i hf
    rw [hm] at h
    simp only [Option.map_eq_some_iff] at h
    obtain ⟨ls, hls, rfl⟩ := h
    simp only [Bool.and_eq_true] at hf
    obtain ⟨xs, rfl⟩ := formed_agg A hf.2
    obtain ⟨p, e1, rfl, w0, w1⟩ := lits_pair A he hls
    refine ⟨p, ?_, rfl, w0, w1⟩
    unfold pv
    congr 1
    exact Array.toList_inj.1 e1
  · cases h
end
theorem key_inv {v : Value} {l : Lit} (h : keyOf Try.prog 85 v = some l) : ∃ p, v = pv p ∧ l = kl p ∧ W64 p.1 ∧ W64 p.2 := key_inv' arrK Try.underlying3 sizeK h
/-- What is added up at a key. -/
def accF (A : List ((Int × Int) × Int)) (p : Int × Int) : Int :=
  match A with
  | [] => 0
  | x :: r => (if x.1 = p then x.2 else 0) + accF r p
theorem accF_snoc (A : List ((Int × Int) × Int)) (x : (Int × Int) × Int) (p : Int × Int) : accF (A ++ [x]) p = accF A p + (if x.1 = p then x.2 else 0) := by
  induction A with
  | nil => simp [accF]
  | cons y r ih => rw [List.cons_append, accF, accF, ih]; omega
theorem accF_nonneg (A : List ((Int × Int) × Int)) (h : ∀ x ∈ A, 1 ≤ x.2) (p : Int × Int) : 0 ≤ accF A p := by
  induction A with
  | nil => exact Int.le_refl 0
  | cons y r ih =>
    have h1 := ih fun x hx => h x (List.mem_cons_of_mem _ hx)
    have h2 := h y (by simp)
    rw [accF]; split <;> omega
theorem accF_le (A : List ((Int × Int) × Int)) (c : Int) (hc : 0 ≤ c) (h : ∀ x ∈ A, x.2 ≤ c) (p : Int × Int) : accF A p ≤ c * A.length := by
  induction A with
  | nil => simp [accF]
  | cons y r ih =>
    have h1 := ih fun x hx => h x (List.mem_cons_of_mem _ hx)
    have h2 := h y (by simp)
    rw [accF, List.length_cons, Int.natCast_add, Int.mul_add]
    split <;> omega
theorem accF_pos (A : List ((Int × Int) × Int)) (h : ∀ x ∈ A, 1 ≤ x.2) (p : Int × Int) : 0 < accF A p ↔ ∃ x ∈ A, x.1 = p := by
  induction A with
  | nil => simp [accF]
  | cons y r ih =>
    have h1 := ih fun x hx => h x (List.mem_cons_of_mem _ hx)
    have h2 := h y (by simp)
    have h3 := accF_nonneg r (fun x hx => h x (List.mem_cons_of_mem _ hx)) p
    rw [accF]
    by_cases e : y.1 = p
    · rw [if_pos e]
      exact ⟨fun _ => ⟨y, by simp, e⟩, fun _ => by omega⟩
    · rw [if_neg e, Int.zero_add, h1]
      constructor
      · rintro ⟨x, hx, hk⟩; exact ⟨x, by simp [hx], hk⟩
      · rintro ⟨x, hx, hk⟩
        rcases List.mem_cons.1 hx with rfl | hx
        · exact absurd hk e
        · exact ⟨x, hx, hk⟩
noncomputable abbrev plE : Value → Option (DataW Unit × List MemPlace) := plainElem Try.prog 3
/-- What a datum says of sums. -/
def Says (D : DataW Unit) (F : Int × Int → Int) : Prop := ∀ p : Int × Int, W64 p.1 → W64 p.2 → Maps.has D (kl p) = decide (0 < F p) ∧ D.atKey (kl p) (.lit (.int .i64 0)) = .lit (.int .i64 (F p))
/-- The block b is a collection of at most m keys that holds the sums F. -/
def Coll (w : World) (b m : Nat) (F : Int × Int → Int) : Prop := ∃ D : DataW Unit, w.ownsMap Try.prog 85 plE b m D ∧ Says D F
theorem Coll.made (w : World) : Coll (w.alloc (.map #[] 0)) w.heap.size 0 (accF []) := ⟨_, World.ownsMap_made w _ _ _, fun p _ _ => ⟨by simp [Maps.has, accF], rfl⟩⟩
theorem Coll.lt {w : World} {b m : Nat} {F : Int × Int → Int} (h : Coll w b m F) : b < w.heap.size := by
  obtain ⟨D, h1, _⟩ := h; exact h1.lt
theorem Coll.kept {w w' : World} {b m : Nat} {F : Int × Int → Int} (h : Coll w b m F) {row : Option Nat} (hg : w.grownBy w' row) (hne : some b ≠ row) : Coll w' b m F := by
  obtain ⟨D, h1, h2⟩ := h; exact ⟨D, h1.kept hg hne, h2⟩
theorem Coll.alloc {w : World} {b m : Nat} {F : Int × Int → Int} (h : Coll w b m F) (o : Obj) : Coll (w.alloc o) b m F := h.kept (World.grownBy_alloc w o none) (by simp)
theorem Coll.below {w w' : World} {b m B : Nat} {F : Int × Int → Int} (h : Coll w b m F) (hb : Below B w w') (hB : b < B) : Coll w' b m F := by
  obtain ⟨D, ⟨es, clock, h1, h2⟩, h3⟩ := h
  exact ⟨D, ⟨es, clock, (hb.block b hB).trans h1, h2⟩, h3⟩
theorem Coll.mono {w : World} {b m m' : Nat} {F : Int × Int → Int} (h : Coll w b m F) (hm : m ≤ m') : Coll w b m' F := by
  obtain ⟨D, h1, h2⟩ := h; exact ⟨D, h1.mono hm, h2⟩
theorem Coll.congr {w : World} {b m : Nat} {F G : Int × Int → Int} (h : Coll w b m F) (hG : ∀ p, G p = F p) : Coll w b m G := by rw [show G = F from funext hG]; exact h
/-- One more sum is put. -/
theorem Says.put {D : DataW Unit} {F : Int × Int → Int} (h : Says D F) (hm : Maps.IsMap D) {p : Int × Int} (w1 : W64 p.1) (w2 : W64 p.2) (z : Int) (hz : 0 < z) : Says (D.put (kl p) (.lit (.int .i64 z))) (fun q => if q = p then z else F q) := by
  intro q q1 q2
  show Maps.has _ (kl q) = decide (0 < if q = p then z else F q) ∧ DataW.atKey _ (kl q) _ = .lit (.int .i64 (if q = p then z else F q))
  by_cases e : q = p
  · subst e
    rw [if_pos rfl]
    exact ⟨by rw [Maps.has_put_same hm (kl_key _)]; simp [hz], by rw [Maps.atKey_put_same hm (kl_key _)]⟩
  · have hne : kl q ≠ kl p := fun he => e (kl_inj q1 q2 w1 w2 he)
    rw [if_neg e, Maps.has_put_other hne, Maps.atKey_put_other hne]
    exact h q q1 q2
end Go.Proofs.Ytlnaahkheankoaa
