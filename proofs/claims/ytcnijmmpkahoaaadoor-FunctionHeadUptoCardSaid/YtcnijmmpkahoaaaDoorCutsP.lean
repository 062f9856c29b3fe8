/-
  What strings.Cut, Split, TrimPrefix and TrimSuffix come to at lists of bytes; a builder of texts in memory. Nothing is claimed here by itself.
-/
import Derived.Test.YtcnijmmpkahoaaaDoorHeadMem
import Derived.Lib.AppendStr
namespace Go.Proofs.YtcnijmmpkahoaaaDoor
open Go.RowKit Go.Lib
set_option linter.unusedSimpArgs false
set_option linter.unusedVariables false
set_option maxRecDepth 10000

/-- the library's own variable holds some number -/
def MaxAt (w : World) : Prop := ∃ m, w.cell? ⟨0, 0, none⟩ = some (.int .i64 m)
theorem MaxAt.grow {w w' : World} (h : MaxAt w) (hg : Grow w w') : MaxAt w' := by
  obtain ⟨m, hm⟩ := h
  exact ⟨m, (hg.cell (block_lt_of_cell hm)).trans hm⟩
theorem MaxAt.below {w w' : World} {B : Nat} (h : MaxAt w) (hg : Below B w w') (hB : 0 < B) : MaxAt w' := by
  obtain ⟨m, hm⟩ := h
  exact ⟨m, (hg.cell (p := ⟨0, 0, none⟩) hB).trans hm⟩

def Three (a b : List UInt8) (v : Bool) (w : World) (e : Ending) (w' : World) : Prop := e = .returned (.tuple #[.string ⟨a.toArray⟩, .string ⟨b.toArray⟩, .bool v]) ∧ Grow w w'
theorem cut_any (s sep : List UInt8) (w : World) (hs : s.length ≤ 1100000) (hm : MaxAt w) : Calls Tryd.prog 55 #[.string ⟨s.toArray⟩, .string ⟨sep.toArray⟩] w (Three (cut s sep).1 (cut s sep).2.1 (cut s sep).2.2 w) := by
  obtain ⟨m, hm⟩ := hm
  refine (Tryd.strings_Cut ⟨s.toArray⟩ ⟨sep.toArray⟩ m w (by rw [str_size]; omega) hm).mono ?_
  rintro e w' ⟨rfl, n, rfl⟩
  exact ⟨rfl, (Grow.refl w).drewN n⟩
/-- the same, its answer named -/
theorem cut_says {s sep a b : List UInt8} {v : Bool} (h : cut s sep = (a, b, v)) (w : World) (hs : s.length ≤ 1100000) (hm : MaxAt w) : Calls Tryd.prog 55 #[.string ⟨s.toArray⟩, .string ⟨sep.toArray⟩] w (Three a b v w) := by
  have := cut_any s sep w hs hm
  rw [h] at this
  exact this
theorem split_any (c : UInt8) (s : List UInt8) (n : Nat) (w : World) (hn : (splitD c s).length = n) (hs : s.length ≤ 1100000) (hm : MaxAt w) :
    Calls Tryd.prog 42 #[.string ⟨s.toArray⟩, .string ⟨#[c]⟩] w fun e w' => e = .returned (.slice (some ⟨w.heap.size, 0, none⟩) n n) ∧ w' = w.alloc (.cells ((splitD c s).map strv).toArray 9) := by
  obtain ⟨m, hm⟩ := hm
  refine (Tryd.strings_Split ⟨s.toArray⟩ ⟨#[c]⟩ m w (by rw [str_size]; omega) hm (by rw [show (⟨#[c]⟩ : ByteArray).size = 1 from rfl]; exact Nat.le_refl _)).mono ?_
  have e1 : (splitB ⟨#[c]⟩ 0 (countB ⟨s.toArray⟩ ⟨#[c]⟩) ⟨s.toArray⟩).map (·.data.toList) = splitD c s := by
    rw [splitB_data]
    exact splitK_is c _ s rfl
  have e2 : (splitB ⟨#[c]⟩ 0 (countB ⟨s.toArray⟩ ⟨#[c]⟩) ⟨s.toArray⟩).map Value.string = (splitD c s).map strv := by
    rw [← e1, List.map_map]
    apply List.map_congr_left
    intro x _
    simp only [Function.comp, strv]
  have e3 : countB ⟨s.toArray⟩ ⟨#[c]⟩ + 1 = n := by
    rw [← hn, ← e1, List.length_map]
    exact (splitB_all ⟨#[c]⟩ (by rw [show (⟨#[c]⟩ : ByteArray).size = 1 from rfl]; exact Nat.le_refl _) 0 _ ⟨s.toArray⟩ rfl).symm
  rintro e w' ⟨rfl, rfl⟩
  rw [e2, e3]
  exact ⟨rfl, rfl⟩
theorem trimp_any (s p : List UInt8) (w : World) : Calls Tryd.prog 71 #[.string ⟨s.toArray⟩, .string ⟨p.toArray⟩] w fun e w' => e = .returned (.string ⟨(trimPrefix s p).toArray⟩) ∧ Grow w w' := by
  refine (Tryd.strings_TrimPrefix ⟨s.toArray⟩ ⟨p.toArray⟩ w).mono ?_
  rintro e w' ⟨rfl, rfl⟩
  exact ⟨rfl, Grow.refl _⟩
theorem trims_any (s p : List UInt8) (w : World) (hs : s.length ≤ 1100000) : Calls Tryd.prog 69 #[.string ⟨s.toArray⟩, .string ⟨p.toArray⟩] w fun e w' => e = .returned (.string ⟨(trimSuffix s p).toArray⟩) ∧ Grow w w' := by
  refine (Tryd.strings_TrimSuffix ⟨s.toArray⟩ ⟨p.toArray⟩ w (by rw [str_size]; omega)).mono ?_
  rintro e w' ⟨rfl, rfl⟩
  exact ⟨rfl, Grow.refl _⟩

/-- a builder holds the text q -/
def Bld (B b : Nat) (q : List UInt8) (w : World) : Prop := IsBuilderF 57 5 B b (Go.Lib.byteCells q) w
theorem BuilderAtF.grow' {T e : TypeId} {B b : Nat} {p : Value} {bs : List Value} {w w' : World} (h : BuilderAtF T e B b p bs w) (hg : Grow w w') : BuilderAtF T e B b p bs w' := by
  obtain ⟨hB, v, hb, ho, hn⟩ := h
  exact ⟨hB, v, (hg.block b (heap_lt hb)).trans hb, ho.kept (row := none) ⟨hg.os, hg.tape, hg.output, hg.size, fun k hk _ => hg.block k hk⟩ (by cases v.ownBlock <;> simp), hn⟩
theorem Bld.grow {B b : Nat} {q : List UInt8} {w w' : World} (h : Bld B b q w) (hg : Grow w w') : Bld B b q w' := h.elim (fun x => .inl (BuilderAtF.grow' x hg)) (fun x => .inr (BuilderAtF.grow' x hg))
theorem bytes_app (q s : List UInt8) : Go.Lib.byteCells (q ++ s) = Go.Lib.byteCells q ++ strCells ⟨s.toArray⟩ := by
  simp [Go.Lib.byteCells, strCells]
theorem write_any (B b : Nat) (q s : List UInt8) (w : World) (h : Bld B b q w) (hl : q.length + s.length ≤ 140737488355328) (hB : B ≤ w.heap.size) :
    Calls Tryd.prog 47 #[.pointer (some ⟨b, 0, none⟩), .string ⟨s.toArray⟩] w fun e w' => (∃ x, e = .returned x) ∧ Bld B b (q ++ s) w' ∧ Below B w w' := by
  refine (bld_write B b (Go.Lib.byteCells q) ⟨s.toArray⟩ w h (by rw [Go.Lib.byteCells_length]; simp [ByteArray.size]; omega) hB).mono ?_
  rintro e w' ⟨rfl, h1, h2, h3⟩
  refine ⟨⟨_, rfl⟩, .inr ?_, h2⟩
  rw [bytes_app]
  exact h1
theorem build_any (B b : Nat) (q : List UInt8) (w : World) (h : Bld B b q w) (h0 : q ≠ []) :
    Calls Tryd.prog 48 #[.pointer (some ⟨b, 0, none⟩)] w fun e w' => e = .returned (.string ⟨q.toArray⟩) ∧ Below B w w' := by
  refine (Tryd.Builder_String_f B b q w h h0).mono ?_
  rintro e w' ⟨rfl, _, h2⟩
  exact ⟨rfl, h2⟩
theorem bld_new (w : World) : Bld w.heap.size w.heap.size [] (w.alloc (.cells #[.pointer none, .slice none 0 0] 57)) := by
  exact IsBuilderF.of (.inl ⟨Nat.le_refl _, .slice none 0 0, heap_alloc_new w _, World.ownsRow_nil _ _ _ _, by simp [Value.ownBlock]⟩)
end Go.Proofs.YtcnijmmpkahoaaaDoor
