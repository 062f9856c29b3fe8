/-
  Whole numbers that came in. Nothing is claimed here by itself.
-/
import Derived.Test.YteoogioanjkacaaGreatDoorKLaidIn
import Derived.Deep.SlicePairs
import Derived.OpenShut
import Derived.ChangeSlices
import Derived.KernelRfl
namespace Go.Proofs.YteoogioanjkacaaGreatDoor
open Go.RowKit Go.ChangeShapes Go.WideShapes Go.Joins
set_option linter.unusedVariables false
set_option linter.unusedSimpArgs false

set_option maxRecDepth 100000 in
theorem nums_of_row {w : World} {a : Option Addr} {len cap : Nat} {zs : List Int}
    (h : (a = none ∧ len = 0 ∧ cap = 0 ∧ zs = []) ∨
      ∃ x, a = some x ∧ len ≤ cap ∧ cap ≤ maxLen ∧ zs.length = cap ∧ (∀ i, i < zs.length → w.cell? (x.add i) = some (.int .i64 (zs.getD i 0))) ∧ ∀ n ∈ zs, (Lit.int .i64 n).wf = true) :
    ∃ xs : List Int, xs.length = len ∧ len ≤ 9223372036854775807 ∧ Nums .i64 w w.heap.size a xs ∧ len ≤ cap ∧ ∀ x ∈ xs, In x := by
  rcases h with ⟨rfl, rfl, rfl, rfl⟩ | ⟨x, rfl, hl, hm, hz, hcell, hwf⟩
  · exact ⟨[], rfl, Nat.zero_le _, Nums.none_, Nat.le_refl _, fun x hx => by cases hx⟩
  · refine ⟨zs.take len, by simp; omega, Nat.le_trans hl hm, fun hp => ?_, hl, fun y hy => ?_⟩
    · have hp' : 0 < zs.length := by simp at hp; omega
      have h0 := hcell 0 hp'
      obtain ⟨b, off, spot⟩ := x
      have hspot : spot = none := by simpa [Addr.add] using World.cell?_spot h0
      subst hspot
      refine ⟨b, off, rfl, by simpa [Addr.add] using block_lt_of_cell h0, fun i hi => ?_⟩
      have hi1 : i < len ∧ i < zs.length := by simp at hi; omega
      have hc := hcell i hi1.2
      rw [Addr.add_lit] at hc
      rw [hc]
      simp [hi1.1]
    · have hb := bounds_i64 (hwf y (List.mem_of_mem_take hy))
      exact ⟨by omega, by omega⟩
end Go.Proofs.YteoogioanjkacaaGreatDoor
