/-
  A slice of bytes that came in, read as bytes. Nothing is claimed here by itself.
-/
import Derived.Test.YtcdjilipmjjjkaaDoorLPlain
import Derived.Lib.SmallJoins
namespace Go.Proofs.YtcdjilipmjjjkaaDoor
open Go.RowKit Go.Lib

theorem bytes_of_row {w : World} {a : Option Addr} {len cap : Nat} {zs : List Int}
    (h : (a = none ∧ len = 0 ∧ cap = 0 ∧ zs = []) ∨
      ∃ x, a = some x ∧ len ≤ cap ∧ cap ≤ maxLen ∧ zs.length = cap ∧ (∀ i, i < zs.length → w.cell? (x.add i) = some (.int .u8 (zs.getD i 0))) ∧ ∀ n ∈ zs, (Lit.int .u8 n).wf = true) :
    ∃ l : List UInt8, l.length = len ∧ len ≤ 9223372036854775807 ∧ Nums .u8 w w.heap.size a (ints l) ∧ len ≤ cap ∧ (a = none → cap = 0) := by
  rcases h with ⟨rfl, rfl, rfl, rfl⟩ | ⟨x, rfl, hl, hm, hz, hcell, hwf⟩
  · exact ⟨[], rfl, Nat.zero_le _, Nums.none_, Nat.le_refl _, fun _ => rfl⟩
  · have hI : ints ((zs.take len).map fun n => UInt8.ofNat n.toNat) = zs.take len := by
      unfold ints
      rw [List.map_map]
      conv => rhs; rw [← List.map_id (zs.take len)]
      apply List.map_congr_left
      intro n hn
      have hb := bounds_u8 (hwf n (List.mem_of_mem_take hn))
      simp only [Function.comp, id]
      rw [u8_nat (by omega)]
      omega
    refine ⟨(zs.take len).map fun n => UInt8.ofNat n.toNat, by simp; omega, Nat.le_trans hl hm, ?_, hl, by simp⟩
    rw [hI]
    intro hp
    have hp' : 0 < zs.length := by simp at hp; omega
    have h0 := hcell 0 hp'
    obtain ⟨b, off, spot⟩ := x
    have hspot : spot = none := by simpa [Addr.add] using World.cell?_spot h0
    subst hspot
    refine ⟨b, off, rfl, by simpa [Addr.add] using block_lt_of_cell h0, fun i hi => ?_⟩
    have hi1 : i < len ∧ i < zs.length := by simp at hi; omega
    have hc := hcell i hi1.2
    have e : (⟨b, off, none⟩ : Addr).add i = ⟨b, off + i, none⟩ := by unfold Addr.add; split <;> simp_all
    rw [e] at hc
    rw [hc]
    simp [hi1.1]
end Go.Proofs.YtcdjilipmjjjkaaDoor
