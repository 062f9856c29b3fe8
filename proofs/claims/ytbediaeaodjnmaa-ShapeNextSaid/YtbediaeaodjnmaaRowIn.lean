/-
  A slice of numbers that came in, read as a list. Nothing is claimed here by itself.
-/
import Derived.Test.YtbediaeaodjnmaaSame
import Derived.Lib.SmallJoins
import Derived.OpenShut
namespace Go.Proofs.Ytbediaeaodjnmaa
open Go.RowKit Go.Lib

theorem nums_of_row {k : IntKind} {w : World} {a : Option Addr} {len cap : Nat} {zs : List Int}
    (h : (a = none ∧ len = 0 ∧ cap = 0 ∧ zs = []) ∨
      ∃ x, a = some x ∧ len ≤ cap ∧ cap ≤ maxLen ∧ zs.length = cap ∧ (∀ i, i < zs.length → w.cell? (x.add i) = some (.int k (zs.getD i 0))) ∧ ∀ n ∈ zs, (Lit.int k n).wf = true) :
    ∃ xs : List Int, xs.length = len ∧ len ≤ 9223372036854775807 ∧ Nums k w w.heap.size a xs ∧ len ≤ cap ∧ (a = none → cap = 0) := by
  rcases h with ⟨rfl, rfl, rfl, rfl⟩ | ⟨x, rfl, hl, hm, hz, hcell, hwf⟩
  · exact ⟨[], rfl, Nat.zero_le _, Nums.none_, Nat.le_refl _, fun _ => rfl⟩
  · refine ⟨zs.take len, by simp; omega, Nat.le_trans hl hm, fun hp => ?_, hl, by simp⟩
    have hp' : 0 < zs.length := by simp at hp; omega
    have h0 := hcell 0 hp'
    obtain ⟨b, off, spot⟩ := x
    have hspot : spot = none := by simpa [Addr.add] using World.cell?_spot h0
    subst hspot
    refine ⟨b, off, rfl, by simpa [Addr.add] using block_lt_of_cell h0, fun i hi => ?_⟩
    have hi1 : i < len ∧ i < zs.length := by simp at hi; omega
    have hc := hcell i hi1.2
    have e : (⟨b, off, none⟩ : Addr).add i = ⟨b, off + i, none⟩ := by unfold Addr.add; split <;> simp_all
    rw [e] at hc
    rw [hc]
    simp [hi1.1]
theorem i64_of {x : Int} (h : (Lit.int .i64 x).wf = true) : -9223372036854775808 ≤ x ∧ x ≤ 9223372036854775807 := by
  have := bounds_i64 h
  omega
end Go.Proofs.Ytbediaeaodjnmaa
