/-
  Plain words on answers; a row of texts that is laid out. Nothing is claimed here by itself.
-/
import Derived.Test.YtcnijmmpkahoaaaDoorUnlikes
namespace Go.Proofs.YtcnijmmpkahoaaaDoor
open Go.RowKit Go.Lib Go.Maps
set_option linter.unusedSimpArgs false
set_option linter.unusedVariables false

def Fine (w : World) (e : Ending) (w' : World) : Prop := e = .returned (.bool true) ∧ Grow w w'
def Says (b : Bool) (w : World) (e : Ending) (w' : World) : Prop := e = .returned (.bool b) ∧ Grow w w'

def strv (s : List UInt8) : Value := .string ⟨s.toArray⟩
theorem strs_lit (w : World) (ls : List (List UInt8)) : Strs (w.alloc (.cells (ls.map strv).toArray 9)) (w.alloc (.cells (ls.map strv).toArray 9)).heap.size (some ⟨w.heap.size, 0, none⟩) ls := fun _ => by
  refine ⟨w.heap.size, 0, rfl, by simp, fun i hi => ?_⟩
  rw [World.cell?_alloc_new]
  simp [strv, hi]

theorem right_says {l : List UInt8} {b : Bool} (h : rightD l = b) (w : World) (hl : l.length ≤ 1100000) : Calls Tryd.prog 24 #[.string ⟨l.toArray⟩] w (Says b w) := by
  subst h
  exact right_any l w (by omega)
theorem unlike_says {ls : List (List UInt8)} {b : Bool} (h : unlB ls = b) {A : Option Addr} {n c : Nat} (w : World) (hn : ls.length = n) (hm : n ≤ 1100000) (hr : Strs w w.heap.size A ls) (hs : ∀ s ∈ ls, s.length ≤ 9223372036854775807) :
    Calls Tryd.prog 25 #[.slice A n c] w (Says b w) := by
  subst h
  exact unlike_any A n c ls w hn hm hr hs
theorem lit_says {ls : List (List UInt8)} {b : Bool} (h : unlB ls = b) {n c : Nat} (w : World) (hn : ls.length = n) (hm : n ≤ 1100000) (hs : ∀ s ∈ ls, s.length ≤ 9223372036854775807) :
    Calls Tryd.prog 25 #[.slice (some ⟨w.heap.size, 0, none⟩) n c] (w.alloc (.cells (ls.map strv).toArray 9)) (Says b w) :=
  (unlike_says h _ hn hm (strs_lit w ls) hs).mono fun e w' ⟨h1, h2⟩ => ⟨h1, (grow_new _ _).trans h2⟩
end Go.Proofs.YtcnijmmpkahoaaaDoor
