/-
  A slice of texts that came in, read as lists of bytes. Nothing is claimed here by itself.
-/
import Derived.Test.YtcnijmmpkahoaaaDoorUnlikes
import Derived.Lib.SmallJoins
import Derived.SliceStrings
namespace Go.Proofs.YtcnijmmpkahoaaaDoor
open Go.RowKit Go.Lib

def IsStrs (w : World) (a : Option Addr) (len cap : Nat) (zs : List ByteArray) : Prop :=
  (a = none ∧ len = 0 ∧ cap = 0 ∧ zs = []) ∨
  ∃ x, a = some x ∧ len ≤ cap ∧ cap ≤ maxLen ∧ zs.length = cap ∧ (∀ i, i < zs.length → w.cell? (x.add i) = some (.string (zs.getD i ByteArray.empty))) ∧ ∀ s ∈ zs, s.size ≤ maxLen

theorem strs_of_row {w : World} {a : Option Addr} {len cap : Nat} {zs : List ByteArray} (h : IsStrs w a len cap zs) :
    ∃ ls : List (List UInt8), ls.length = len ∧ len ≤ 9223372036854775807 ∧ Strs w w.heap.size a ls ∧ (∀ s ∈ ls, s.length ≤ 9223372036854775807) ∧ len ≤ cap ∧ cap ≤ 9223372036854775807 ∧ (a = none → cap = 0) := by
  rcases h with ⟨rfl, rfl, rfl, rfl⟩ | ⟨x, rfl, hl, hm, hz, hcell, hwf⟩
  · exact ⟨[], rfl, Nat.zero_le _, strs_nil, by simp, Nat.le_refl _, Nat.zero_le _, fun _ => rfl⟩
  · refine ⟨(zs.take len).map fun s => s.data.toList, by simp; omega, Nat.le_trans hl hm, ?_, ?_, hl, hm, by simp⟩
    · intro hp
      have hp' : 0 < zs.length := by simp at hp; omega
      have h0 := hcell 0 hp'
      obtain ⟨b, off, spot⟩ := x
      have hspot : spot = none := by simpa [Addr.add] using World.cell?_spot h0
      subst hspot
      refine ⟨b, off, rfl, by simpa [Addr.add] using block_lt_of_cell h0, fun i hi => ?_⟩
      have hi1 : i < len ∧ i < zs.length := by simp at hi; omega
      have hc := hcell i hi1.2
      have e : (⟨b, off, none⟩ : Addr).add i = ⟨b, off + i, none⟩ := by unfold Addr.add; split <;> simp_all
      rw [e] at hc
      rw [hc]
      simp [hi1.1, hi1.2]
    · intro s hs
      obtain ⟨t, ht, rfl⟩ := List.mem_map.1 hs
      have := hwf t (List.mem_of_mem_take ht)
      unfold maxLen at this
      rw [size_eq] at this
      omega
end Go.Proofs.YtcnijmmpkahoaaaDoor
