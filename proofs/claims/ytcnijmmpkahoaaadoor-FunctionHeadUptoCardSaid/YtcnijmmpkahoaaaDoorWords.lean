/-
  Plain words on memory: a slice that reads as a list of numbers. Nothing is claimed here by itself.
-/
import Derived.WalkKit
import Derived.ProofKit
import Derived.Below
import Derived.Laws.OwnMore
import Derived.Deep.Draws
import Derived.Deep.OwnRows
import Derived.Laws.Rows
import Derived.Laws.BitsAllLaws
namespace Go.Proofs.YtcnijmmpkahoaaaDoor
open Go.RowKit

theorem below_drewN {B : Nat} {a w : World} (h : Below B a w) (n : Nat) : Below B a (w.drewN n) := ⟨h.os, h.tape, h.output, h.size, h.block⟩
theorem rowIs_drewN {w : World} {b : Nat} {t : TypeId} {n : Nat} {f : Nat → Value} (h : w.rowIs b t n f) (k : Nat) : (w.drewN k).rowIs b t n f := h
theorem rowIs_below {w w' : World} {b B : Nat} {t : TypeId} {n : Nat} {f : Nat → Value} (h : w.rowIs b t n f) (hb : Below B w w') (hB : b < B) : w'.rowIs b t n f := h.of_block (hb.block b hB)

/-- the slice at address A holds the numbers xs, of kind k; it lies below block B -/
def Nums (k : IntKind) (w : World) (B : Nat) (A : Option Addr) (xs : List Int) : Prop :=
  0 < xs.length → ∃ b off, A = some ⟨b, off, none⟩ ∧ b < B ∧ ∀ i, i < xs.length → w.cell? ⟨b, off + i, none⟩ = some (.int k (xs.getD i 0))

section
variable {k : IntKind} {w w' : World} {B B' : Nat} {A : Option Addr} {xs : List Int}
theorem Nums.keep (h : Nums k w B A xs) (hk : ∀ p : Addr, p.block < B → w'.cell? p = w.cell? p) : Nums k w' B A xs := fun hn => by
  obtain ⟨b, off, e, hb, hc⟩ := h hn
  exact ⟨b, off, e, hb, fun i hi => (hk _ hb).trans (hc i hi)⟩
theorem Nums.more (h : Nums k w B A xs) (hB : B ≤ B') : Nums k w B' A xs := fun hn => by
  obtain ⟨b, off, e, hb, hc⟩ := h hn
  exact ⟨b, off, e, by omega, hc⟩
theorem Nums.below (h : Nums k w B A xs) (hb : Below B w w') : Nums k w' B A xs := h.keep fun _ hp => hb.cell hp
theorem Nums.drewN (h : Nums k w B A xs) (n : Nat) : Nums k (w.drewN n) B A xs := h
theorem Nums.drew (h : Nums k w B A xs) : Nums k w.drew B A xs := h
theorem Nums.none_ : Nums k w B A [] := fun h => absurd h (by simp)
theorem Nums.of_row {g : Nat} {t : TypeId} (h : w.rowIs g t xs.length fun i => .int k (xs.getD i 0)) : Nums k w w.heap.size (some ⟨g, 0, none⟩) xs := fun _ =>
  ⟨g, 0, rfl, h.lt, fun i hi => by simpa using h.cell hi⟩
theorem Nums.take (h : Nums k w B A xs) (n : Nat) : Nums k w B A (xs.take n) := fun hn => by
  have hl : (xs.take n).length ≤ xs.length := by simp; omega
  obtain ⟨b, off, e, hb, hc⟩ := h (by omega)
  refine ⟨b, off, e, hb, fun i hi => ?_⟩
  rw [hc i (by omega)]
  have : i < n := by simp at hi; omega
  simp [this]
end
end Go.Proofs.YtcnijmmpkahoaaaDoor
