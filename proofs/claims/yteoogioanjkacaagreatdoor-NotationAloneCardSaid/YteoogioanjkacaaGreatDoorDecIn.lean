/-
  An argument that is an exact number, read and read again. Nothing is claimed here by itself.
-/
import Derived.Test.YteoogioanjkacaaGreatDoorKLaidIn
import Derived.Lib.SmallJoins
import Derived.ChangeSame
import Derived.OpenShut
namespace Go.Proofs.YteoogioanjkacaaGreatDoor
open Go.ChangeShapes Go.WideShapes Go.ChangeAt Go.RowKit Go.Joins

theorem in_wf {n : Int} (h : (Lit.int .i64 n).wf = true) : In n := bounds_i64 h

theorem cellsDec : Tryz.prog.cellsOf 41 = 2 := by kernel_rfl

section
variable {H : Type} {enc : TypeId × Value → H} {W : World} {base : Nat} {sp : Nat → Bool} {held : Bool}
set_option maxRecDepth 100000 in
theorem open_dec {r : Reach} {b0 : Nat} {v : Value} {d : DataW H} {p : List MemPlace} (hv : Value.okWide Tryz.prog W r b0 41 v) (h : DataW.Trod enc Tryz.prog W base sp held 41 v d p) :
    ∃ m e, v = .agg #[.int .i64 m, .int .i64 e] ∧ d = .agg [.lit (.int .i64 m), .lit (.int .i64 e)] ∧ p = [] ∧ (Lit.int .i64 m).wf = true ∧ (Lit.int .i64 e).wf = true := by
  obtain ⟨c0, c1, y0, y1, m, rfl, rfl, rfl, hy0, hy1⟩ := open_agg2 Tryz.underlying41 (by kernel_rfl) cellsDec hv h
  obtain ⟨a, e0, rfl, wa⟩ := DataW.trod_int Tryz.underlying3 hy0
  obtain ⟨b, e1, rfl, wb⟩ := DataW.trod_int Tryz.underlying3 hy1
  simp at e0 e1
  subst e0 e1
  exact ⟨a, b, rfl, rfl, rfl, wa, wb⟩
set_option maxRecDepth 100000 in
theorem shut_dec {m e : Int} (hm : (Lit.int .i64 m).wf = true) (he : (Lit.int .i64 e).wf = true) : DataW.Trod enc Tryz.prog W base sp held 41 (.agg #[.int .i64 m, .int .i64 e]) (.agg [.lit (.int .i64 m), .lit (.int .i64 e)]) [] :=
  shut_agg2 (y0 := (.lit (.int .i64 m), [])) (y1 := (.lit (.int .i64 e), [])) Tryz.underlying41 (by kernel_rfl) cellsDec ⟨1, by simp [DataW.trod, Tryz.underlying3, hm]⟩ ⟨1, by simp [DataW.trod, Tryz.underlying3, he]⟩
end
end Go.Proofs.YteoogioanjkacaaGreatDoor
