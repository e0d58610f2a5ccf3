/- The law of orders, in numbers: two single edges one behind the other. -/
import Derived.Test.YtndjjafpdiehdaaZMl
namespace Go.Proofs.Ytndjjafpdiehdaa
open Go.Proofs.Gr

/-- Two mergings of two vertices each, in either order. -/
theorem mg_core (a b c d v Fc Fd Fv Ga Gb Gv m1 M1 r1 m2 M2 r2 : Int) (hab : a < b) (hcd : c < d)
    (hFc : (c < b ∧ Fc = c) ∨ (c = b ∧ Fc = a) ∨ (b < c ∧ Fc = c - 1)) (hFd : (d < b ∧ Fd = d) ∨ (d = b ∧ Fd = a) ∨ (b < d ∧ Fd = d - 1)) (hFv : (v < b ∧ Fv = v) ∨ (v = b ∧ Fv = a) ∨ (b < v ∧ Fv = v - 1))
    (hGa : (a < d ∧ Ga = a) ∨ (a = d ∧ Ga = c) ∨ (d < a ∧ Ga = a - 1)) (hGb : (b < d ∧ Gb = b) ∨ (b = d ∧ Gb = c) ∨ (d < b ∧ Gb = b - 1)) (hGv : (v < d ∧ Gv = v) ∨ (v = d ∧ Gv = c) ∨ (d < v ∧ Gv = v - 1))
    (hm1 : (Fc ≤ Fd ∧ m1 = Fc ∧ M1 = Fd) ∨ (Fd ≤ Fc ∧ m1 = Fd ∧ M1 = Fc)) (hm2 : (Ga ≤ Gb ∧ m2 = Ga ∧ M2 = Gb) ∨ (Gb ≤ Ga ∧ m2 = Gb ∧ M2 = Ga))
    (hr1 : ((Fv < M1 ∨ m1 = M1) ∧ r1 = Fv) ∨ (Fv = M1 ∧ m1 < M1 ∧ r1 = m1) ∨ (M1 < Fv ∧ m1 < M1 ∧ r1 = Fv - 1))
    (hr2 : ((Gv < M2 ∨ m2 = M2) ∧ r2 = Gv) ∨ (Gv = M2 ∧ m2 < M2 ∧ r2 = m2) ∨ (M2 < Gv ∧ m2 < M2 ∧ r2 = Gv - 1)) : r1 = r2 := by
  rcases hFd with ⟨_, rfl⟩ | ⟨_, rfl⟩ | ⟨_, rfl⟩ <;> rcases hGb with ⟨_, rfl⟩ | ⟨_, rfl⟩ | ⟨_, rfl⟩ <;> (try omega) <;>
  rcases hFc with ⟨_, rfl⟩ | ⟨_, rfl⟩ | ⟨_, rfl⟩ <;> (try omega) <;> rcases hGa with ⟨_, rfl⟩ | ⟨_, rfl⟩ | ⟨_, rfl⟩ <;> (try omega) <;>
  rcases hm1 with ⟨_, rfl, rfl⟩ | ⟨_, rfl, rfl⟩ <;> (try omega) <;> rcases hm2 with ⟨_, rfl, rfl⟩ | ⟨_, rfl, rfl⟩ <;> (try omega) <;>
  rcases hFv with ⟨_, rfl⟩ | ⟨_, rfl⟩ | ⟨_, rfl⟩ <;> (try omega) <;> rcases hGv with ⟨_, rfl⟩ | ⟨_, rfl⟩ | ⟨_, rfl⟩ <;> omega
theorem out_spec (p : Int × Int) (v : Int) : ((v < mxP p ∨ mnP p = mxP p) ∧ mgF p v = v) ∨ (v = mxP p ∧ mnP p < mxP p ∧ mgF p v = mnP p) ∨ (mxP p < v ∧ mnP p < mxP p ∧ mgF p v = v - 1) := by
  have := mn_mx p
  unfold mgF; split
  · left; exact ⟨by assumption, rfl⟩
  · split
    · right; left; exact ⟨by assumption, by omega, rfl⟩
    · right; right; exact ⟨by omega, by omega, rfl⟩
theorem mgF_spec {p : Int × Int} (h : p.1 ≠ p.2) (v : Int) : (v < mxP p ∧ mgF p v = v) ∨ (v = mxP p ∧ mgF p v = mnP p) ∨ (mxP p < v ∧ mgF p v = v - 1) := by
  have h1 := mn_mx p
  rcases out_spec p v with h2 | h2 | h2
  · left; exact ⟨by omega, h2.2⟩
  · right; left; exact ⟨h2.1, h2.2.2⟩
  · right; right; exact ⟨h2.1, h2.2.2⟩
theorem mgF_self {p : Int × Int} (h : p.1 = p.2) (v : Int) : mgF p v = v := by
  have h1 := mn_mx p
  unfold mgF; rw [if_pos (.inr (by omega))]
theorem mn_swap (x y : Int) : mnP (x, y) = mnP (y, x) ∧ mxP (x, y) = mxP (y, x) := by
  unfold mnP mxP
  constructor
  · show (if y < x then y else x) = if x < y then x else y; split <;> split <;> omega
  · show (if x < y then y else x) = if y < x then x else y; split <;> split <;> omega
theorem mv_spec (f : Int → Int) (q : Int × Int) : (f (mnP q) ≤ f (mxP q) ∧ mnP (mvF f q) = f (mnP q) ∧ mxP (mvF f q) = f (mxP q)) ∨ (f (mxP q) ≤ f (mnP q) ∧ mnP (mvF f q) = f (mxP q) ∧ mxP (mvF f q) = f (mnP q)) := by
  have h1 := mn_mx (f q.1, f q.2)
  have h2 := mn_mx (mvF f q)
  have e1 : (mvF f q).1 = mnP (f q.1, f q.2) := rfl
  have e2 : (mvF f q).2 = mxP (f q.1, f q.2) := rfl
  rw [e1, e2] at h2
  simp only at h1
  rcases (mn_mx q).2 with ⟨k1, k2⟩ | ⟨k1, k2⟩ <;> rw [k1, k2] <;> omega
theorem mv_mv (f g : Int → Int) (p : Int × Int) : mvF g (mvF f p) = mvF (fun v => g (f v)) p := by
  have h1 := mn_mx (f p.1, f p.2)
  unfold mvF
  simp only at h1 ⊢
  rcases h1.2 with ⟨k1, k2⟩ | ⟨k1, k2⟩ <;> rw [k1, k2]
  rw [(mn_swap _ _).1, (mn_swap _ _).2]
theorem mvP_mvP (f g : Int → Int) (P : List (Int × Int)) : mvP g (mvP f P) = mvP (fun v => g (f v)) P := by
  unfold mvP
  rw [List.map_map]
  exact List.map_congr_left fun p _ => mv_mv f g p
theorem mg_nrm (q : Int × Int) (v : Int) : mgF (mvF (fun x => x) q) v = mgF q v := by
  have h := mv_spec (fun x => x) q
  have h1 := mn_mx q
  have : mnP (mvF (fun x => x) q) = mnP q ∧ mxP (mvF (fun x => x) q) = mxP q := by omega
  unfold mgF; rw [this.1, this.2]
theorem mg_deg (p q : Int × Int) (h : p.1 = p.2) (v : Int) : mgF (mvF (mgF p) q) (mgF p v) = mgF (mvF (mgF q) p) (mgF q v) := by
  have e : mgF p = fun x => x := funext fun x => mgF_self h x
  have h2 : (mvF (mgF q) p).1 = (mvF (mgF q) p).2 := by
    have h3 := mn_mx (mgF q p.1, mgF q p.2)
    have h4 := (mn_mx_eq (mgF q p.1, mgF q p.2)).2 (by show mgF q p.1 = mgF q p.2; rw [h])
    exact h4
  rw [e, mg_nrm, mgF_self h2]
/-- Two mergings, in either order. -/
theorem mg_comm (p q : Int × Int) (v : Int) : mgF (mvF (mgF p) q) (mgF p v) = mgF (mvF (mgF q) p) (mgF q v) := by
  by_cases hp : p.1 = p.2
  · exact mg_deg p q hp v
  · by_cases hq : q.1 = q.2
    · exact (mg_deg q p hq v).symm
    · have h1 := mn_mx p
      have h2 := mn_mx q
      exact mg_core (mnP p) (mxP p) (mnP q) (mxP q) v _ _ _ _ _ _ _ _ _ _ _ _ (by omega) (by omega) (mgF_spec hp _) (mgF_spec hp _) (mgF_spec hp v) (mgF_spec hq _) (mgF_spec hq _) (mgF_spec hq v) (mv_spec _ q) (mv_spec _ p) (out_spec _ _) (out_spec _ _)
/-- The new number of an edge when an other one is left out. -/
def nwI (e f : Nat) : Nat := if f < e then f else f - 1
theorem nw_at {P : List (Int × Int)} {e f : Nat} (he : e < P.length) (hf : f < P.length) (hef : f ≠ e) : nwI e f < (dropP P e).length ∧ pAt (dropP P e) (nwI e f) = pAt P f := by
  have h1 := dropP_len P e he
  have h2 : nwI e f < (dropP P e).length := by unfold nwI; split <;> omega
  refine ⟨h2, ?_⟩
  unfold pAt
  rw [List.getD_eq_getElem?_getD, List.getD_eq_getElem?_getD, dropP_at P e _ he]
  unfold nwI
  by_cases h : f < e
  · rw [if_pos h, if_pos h]
  · rw [if_neg h, if_neg (by omega), show f - 1 + 1 = f by omega]
theorem dropP_comm {P : List (Int × Int)} {e f : Nat} (he : e < P.length) (hf : f < P.length) (hef : f ≠ e) : dropP (dropP P e) (nwI e f) = dropP (dropP P f) (nwI f e) := by
  refine List.ext_getElem? fun i => ?_
  rw [dropP_at _ _ _ (nw_at he hf hef).1, dropP_at _ _ _ (nw_at hf he (Ne.symm hef)).1]
  simp only [dropP_at P e _ he, dropP_at P f _ hf]
  unfold nwI
  split <;> split <;> (repeat' split) <;> first | rfl | (exfalso; omega)
theorem drop2_perm {Y Q : List (Int × Int)} {e f k : Nat} (he : e < Q.length) (hf : f < Q.length) (hef : f ≠ e) (hY : Y.Perm (dropP Q e)) (hk : k < Y.length) (hkf : pAt Y k = pAt Q f) : (dropP Y k).Perm (dropP (dropP Q e) (nwI e f)) := by
  have h1 := dropP_perm Y k hk
  obtain ⟨h2, h3⟩ := nw_at he hf hef
  have h4 := dropP_perm (dropP Q e) (nwI e f) h2
  rw [pAt_get, hkf] at h1
  rw [pAt_get, h3] at h4
  exact (List.perm_cons _).1 (h1.symm.trans (hY.trans h4))
theorem mk_perm {n : Nat} {Q R : List (Int × Int)} (hQ : InN n Q) (h : Q.Perm R) : mkG n Q = mkG n R :=
  mk_congr hQ (fun p hp => hQ p (h.mem_iff.2 hp)) (h.map _)
end Go.Proofs.Ytndjjafpdiehdaa
