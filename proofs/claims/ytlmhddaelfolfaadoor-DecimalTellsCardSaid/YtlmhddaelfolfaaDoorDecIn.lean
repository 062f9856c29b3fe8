/-
  An argument that is an exact number, read and read again. Nothing is claimed here by itself.
-/
import Derived.Test.YtlmhddaelfolfaaDoorLaidIn
import Derived.Lib.SmallJoins
import Derived.ChangeSame
import Derived.OpenShut
namespace Go.Proofs.YtlmhddaelfolfaaDoor
open Go.ChangeShapes Go.WideShapes Go.ChangeAt Go.RowKit Go.Joins

theorem in_wf {n : Int} (h : (Lit.int .i64 n).wf = true) : In n := bounds_i64 h

theorem cellsDec : Tryd.prog.cellsOf 23 = 2 := by kernel_rfl

section
variable {H : Type} {enc : TypeId × Value → H} {W : World} {base : Nat} {sp : Nat → Bool} {held : Bool}
set_option maxRecDepth 100000 in
theorem open_dec {r : Reach} {b0 : Nat} {v : Value} {d : DataW H} {p : List MemPlace} (hv : Value.okWide Tryd.prog W r b0 23 v) (h : DataW.Trod enc Tryd.prog W base sp held 23 v d p) :
    ∃ m e, v = .agg #[.int .i64 m, .int .i64 e] ∧ d = .agg [.lit (.int .i64 m), .lit (.int .i64 e)] ∧ p = [] ∧ (Lit.int .i64 m).wf = true ∧ (Lit.int .i64 e).wf = true := by
  obtain ⟨c0, c1, y0, y1, m, rfl, rfl, rfl, hy0, hy1⟩ := open_agg2 Tryd.underlying23 (by kernel_rfl) cellsDec hv h
  obtain ⟨a, e0, rfl, wa⟩ := DataW.trod_int Tryd.underlying3 hy0
  obtain ⟨b, e1, rfl, wb⟩ := DataW.trod_int Tryd.underlying3 hy1
  simp at e0 e1
  subst e0 e1
  exact ⟨a, b, rfl, rfl, rfl, wa, wb⟩
set_option maxRecDepth 100000 in
theorem shut_dec {m e : Int} (hm : (Lit.int .i64 m).wf = true) (he : (Lit.int .i64 e).wf = true) : DataW.Trod enc Tryd.prog W base sp held 23 (.agg #[.int .i64 m, .int .i64 e]) (.agg [.lit (.int .i64 m), .lit (.int .i64 e)]) [] :=
  shut_agg2 (y0 := (.lit (.int .i64 m), [])) (y1 := (.lit (.int .i64 e), [])) Tryd.underlying23 (by kernel_rfl) cellsDec ⟨1, by simp [DataW.trod, Tryd.underlying3, hm]⟩ ⟨1, by simp [DataW.trod, Tryd.underlying3, he]⟩
end
end Go.Proofs.YtlmhddaelfolfaaDoor
