/-
  A struct of two cells in memory. Nothing is claimed here by itself.
-/
import Derived.Test.YthmhpjjpjgmdaaaDoorFlow
import Derived.Laws.Rows
namespace Go.Proofs.YthmhpjjpjgmdaaaDoor
open Go.RowKit

theorem grow_new2 (w : World) (a b : Obj) : Grow w ((w.alloc a).alloc b) := (grow_new _ _).trans (grow_new _ _)
theorem grow_new3 (w : World) (a b c : Obj) : Grow w (((w.alloc a).alloc b).alloc c) := (grow_new2 _ _ _).trans (grow_new _ _)

/-- a struct of two cells stands at the block b -/
def Boxed (t : TypeId) (w : World) (b : Nat) (x y : Value) : Prop := w.heap[b]? = some (.cells #[x, y] t (0, 0))
section
variable {t : TypeId} {w w' : World} {b : Nat} {x y : Value}
theorem Boxed.lt (h : Boxed t w b x y) : b < w.heap.size := by
  rcases Nat.lt_or_ge b w.heap.size with k | k
  · exact k
  · rw [Boxed, Array.getElem?_eq_none k] at h; cases h
theorem Boxed.grow (h : Boxed t w b x y) (hg : Grow w w') : Boxed t w' b x y := (hg.block b h.lt).trans h
theorem Boxed.fst (h : Boxed t w b x y) : w.cell? ⟨b, 0, none⟩ = some x := cell_of_row w b 0 _ t (0, 0) h
theorem Boxed.snd (h : Boxed t w b x y) : w.cell? ⟨b, 1, none⟩ = some y := cell_of_row w b 1 _ t (0, 0) h
theorem Boxed.froz (h : Boxed t w b x y) (j : Nat) : w.frozen? ⟨b, j, none⟩ = false := frozen_of_row w b j _ t h
theorem Boxed.put0 (h : Boxed t w b x y) (v : Value) : Boxed t (w.setCell ⟨b, 0, none⟩ v) b v y := heap_setCell_same w b 0 _ t v h
theorem Boxed.put1 (h : Boxed t w b x y) (v : Value) : Boxed t (w.setCell ⟨b, 1, none⟩ v) b x v := heap_setCell_same w b 1 _ t v h
theorem boxed_new (w : World) (x y : Value) (t : TypeId) : Boxed t (w.alloc (.cells #[x, y] t)) w.heap.size x y := heap_alloc_new w _
theorem Boxed.other (h : Boxed t w b x y) {b' : Nat} (hb : b' ≠ b) (j : Nat) (v : Value) : Boxed t (w.setCell ⟨b', j, none⟩ v) b x y := (heap_setCell_other w ⟨b', j, none⟩ b v (fun e => hb e.symm)).trans h
theorem Grow.put {b : Nat} (h : Grow w w') (hb : w.heap.size ≤ b) (j : Nat) (v : Value) : Grow w (w'.setCell ⟨b, j, none⟩ v) := Below.setCell h hb v
theorem below_put2 (B b : Nat) (w : World) (hb : B ≤ b) (x y : Value) : Below B w ((w.setCell ⟨b, 0, none⟩ x).setCell ⟨b, 1, none⟩ y) := Below.setCell (Below.setCell (Below.refl B w) hb x) hb y
end
end Go.Proofs.YthmhpjjpjgmdaaaDoor
