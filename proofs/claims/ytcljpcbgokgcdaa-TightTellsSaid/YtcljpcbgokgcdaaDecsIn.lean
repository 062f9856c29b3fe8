/-
  Exact numbers that came in. Nothing is claimed here by itself.
-/
import Derived.Test.YtcljpcbgokgcdaaNodesIn
namespace Go.Proofs.Ytcljpcbgokgcdaa
open Go.RowKit Go.ChangeShapes Go.WideShapes
set_option linter.unusedVariables false

def IsDecs (w : World) (a : Option Addr) (len cap : Nat) (ds : List (Int × Int)) : Prop :=
  ds.length = len ∧ len ≤ 9223372036854775807 ∧ Decs w w.heap.size a ds ∧ ∀ x ∈ ds, In x.1 ∧ In x.2
section
variable {H : Type} {enc : TypeId × Value → H} {W : World}
theorem open_decs {base : Nat} {v : Value} {d : DataW H} {p : List MemPlace} (hv : Value.okWide Try.prog W .any base 24 v)
    (h : DataW.Trod enc Try.prog W 0 (fun _ => true) true 24 v d p) : ∃ a len cap zs, v = .slice a len cap ∧ IsDecs W a len cap zs := by
  obtain ⟨a, len, cap, rfl⟩ := okWide_slice Try.underlying24 hv
  obtain ⟨fuel, hf⟩ := h
  have hf' : DataW.trod enc Try.prog W 0 (fun _ => true) true fuel 24 [.slice a len cap] = some (d, p) := hf
  obtain ⟨A, c, ds, e, l, m, i⟩ := open_decs_cell hf'
  obtain ⟨e1, e2, e3⟩ := Value.slice.inj e
  subst e1 e2 e3
  exact ⟨_, _, _, ds, rfl, rfl, l, m, i⟩
end
end Go.Proofs.Ytcljpcbgokgcdaa
