/- What the variable of the range error holds, read off the list; the law of checks for every text and int. -/
import Derived.Test.YtbmonfbbkmpdhaaDoorCou
import Derived.Test.YtbmonfbbkmpdhaaDoorQ32
namespace Go.Proofs.YtbmonfbbkmpdhaaDoor
open Go.ChangeShapes Go.WideShapes Go.ChangeAt Go.RowKit

theorem wf_i64 {n : Int} (h : (Lit.int .i64 n).wf = true) : -9223372036854775808 ≤ n ∧ n ≤ 9223372036854775807 := by
  simpa [Lit.wf, show IntKind.i64.min = -9223372036854775808 from rfl, show IntKind.i64.max = 9223372036854775807 from rfl] using h

theorem iface_cells {H : Type} {enc : TypeId × Value → H} {P : Program} {w : World} {base : Nat} {sp : Nat → Bool} {held : Bool} {fuel : Nat} {t : TypeId} {ms : _} {cs : List Value} {nm : String} {d : DataW H} {p : List MemPlace}
    (hu : P.underlying t = some (.interface ms)) (h : DataW.trod enc P w base sp held fuel t cs = some (.iface nm d, p)) : ∃ tp v, cs = [.iface tp v] := by
  cases fuel with
  | zero => simp [DataW.trod] at h
  | succ fuel =>
    rcases cs with _ | ⟨c, _ | ⟨c2, cs⟩⟩
    · simp [DataW.trod, hu] at h
    · cases c <;> first | exact ⟨_, _, rfl⟩ | simp [DataW.trod, hu] at h
    · simp [DataW.trod, hu] at h

theorem gErrRange : Tryd.prog.globalNamed "strconv.ErrRange" = some 1 := by kernel_rfl
theorem gErrType : (Tryd.prog.globals[1]?).map (·.type) = some 63 := by kernel_rfl
theorem under63 : ∃ ms, Tryd.prog.underlying 63 = some (.interface ms) := by
  refine ⟨#[("Error", 159)], ?_⟩
  kernel_rfl
theorem arr_one {cs : Array Value} {v : Value} (h : cs.toList = [v]) : cs = #[v] := by
  cases cs; simp_all
set_option maxRecDepth 100000 in
theorem errRange5 {W : World} (h : laidMet Tryd.prog laid5 W) : ∃ tp p, W.var? Tryd.prog "strconv.ErrRange" = some #[.iface tp p] := by
  obtain ⟨ps, ⟨g, t, cs, fuel, p, q, h1, h2, h3, h4, h5, h6⟩, hn, hc⟩ := laidMet_tail (laidMet_tail (laidMet_tail h))
  obtain rfl := Option.some.inj (gErrRange.symm.trans h1)
  obtain rfl := Option.some.inj (gErrType.symm.trans h2)
  obtain ⟨ms, hms⟩ := under63
  obtain ⟨tp, v, hv⟩ := iface_cells hms h4
  refine ⟨tp, v, ?_⟩
  rw [h3]
  rw [arr_one hv]

theorem checks_any (HA : Awake) (s : ByteArray) (n : Int) (h0 : -9223372036854775808 ≤ n) (h1 : n ≤ 9223372036854775807) (w : World) (hT : Tab w) (hv : ∃ tp p, w.var? Tryd.prog "strconv.ErrRange" = some #[.iface tp p]) :
    Calls Tryd.prog 3 #[.string s, .int .i64 n] w fun e w' => e = .returned (.bool true) ∧ Below w.heap.size w w' := by
  obtain ⟨tp, p, hv⟩ := hv
  by_cases h : 2048 < s.size
  · exact checks_long HA s n h w hT
  · exact checks_short HA s n (by omega) h0 h1 w hT tp p hv
end Go.Proofs.YtbmonfbbkmpdhaaDoor
