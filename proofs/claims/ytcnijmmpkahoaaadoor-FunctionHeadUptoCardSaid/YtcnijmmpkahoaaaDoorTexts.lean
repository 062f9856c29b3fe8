/-
  Texts and ranges over them, in memory. Nothing is claimed here by itself.
-/
import Derived.Test.YtcnijmmpkahoaaaDoorFlow
import Derived.Test.YtcnijmmpkahoaaaDoorNmMath
import Derived.Test.YtcnijmmpkahoaaaDoorProg
import Derived.Lib.OthersKept
import Derived.Lib.Hide
import Derived.Laws.RangeString
import Derived.Laws.RangeAny
import Derived.Deep.LoopGhost
import Derived.Deep.CutBlock
import Derived.Deep.DeepCutAuto
import Derived.ProofKit
import Derived.WalkKit
namespace Go.Proofs.YtcnijmmpkahoaaaDoor
open Go.RowKit Go.Lib

theorem heap_lt {w : World} {b : Nat} {o : Obj} (h : w.heap[b]? = some o) : b < w.heap.size := (Array.getElem?_eq_some_iff.1 h).1
theorem str_ext {s t : ByteArray} (h : s.data.toList = t.data.toList) : s = t := by
  apply ByteArray.ext
  exact Array.toList_inj.1 h
theorem str_size (l : List UInt8) : (⟨l.toArray⟩ : ByteArray).size = l.length := by simp [ByteArray.size]
theorem str_list (s : ByteArray) : s = ⟨s.data.toList.toArray⟩ := str_ext (by simp)
theorem str_app (a b : List UInt8) : (⟨a.toArray⟩ : ByteArray) ++ ⟨b.toArray⟩ = ⟨(a ++ b).toArray⟩ := by
  apply ByteArray.ext
  simp
theorem str_inj {a b : List UInt8} : (⟨a.toArray⟩ : ByteArray) = ⟨b.toArray⟩ ↔ a = b := by
  constructor
  · intro h
    have := congrArg (fun s : ByteArray => s.data.toList) h
    simpa using this
  · rintro rfl; rfl
theorem slice_from (l : List UInt8) (n : Nat) (h : n ≤ l.length) (W : World) : (Instr.slice 9 (.string ⟨l.toArray⟩) (some (.int .i64 (n : Nat))) none none).run Tryd.prog W = .ok (.string ⟨(l.drop n).toArray⟩) W := by
  have hu : Tryd.prog.underlying 9 = some .string := by kernel_rfl
  rw [run_slice_string_l (ht := hu) (h0 := by omega) (h1 := by simpa [ByteArray.size] using h)]
  congr 2
  exact str_ext (by simp [ByteArray.size]; exact List.take_of_length_le (by simp))

theorem slice_to (l : List UInt8) (n : Nat) (h : n ≤ l.length) (W : World) : (Instr.slice 9 (.string ⟨l.toArray⟩) none (some (.int .i64 (n : Nat))) none).run Tryd.prog W = .ok (.string ⟨(l.take n).toArray⟩) W := by
  have hu : Tryd.prog.underlying 9 = some .string := by kernel_rfl
  rw [run_slice_string_h (ht := hu) (h0 := by omega) (h2 := by simpa [ByteArray.size] using h)]
  congr 2
  exact str_ext (by simp)

/-- a range over a text stands at pos -/
structure Going (k : Nat) (l : List UInt8) (pos : Nat) (wr : World) : Prop where
  at_ : wr.heap[k]? = some (.stringIter ⟨l.toArray⟩ pos)
theorem going_new (w : World) (l : List UInt8) : Going w.heap.size l 0 (w.iter ⟨l.toArray⟩ 0) := ⟨World.iter_heap _ _ _⟩
theorem Going.next {k pos : Nat} {l : List UInt8} {wr : World} (h : Going k l pos wr) (hp : pos < l.length) (ty : TypeId) :
    (Instr.next (.pointer (some ⟨k, 0, none⟩)) true ty).run Tryd.prog wr =
      .ok (.tuple #[.bool true, .int .i64 pos, .int .i32 ((runeD (l.drop pos)).1 : Nat)]) (wr.iterAt k ⟨l.toArray⟩ (pos + (runeD (l.drop pos)).2)) := by
  have hp' : pos < (⟨l.toArray⟩ : ByteArray).size := by rw [str_size]; exact hp
  have hd := decode_at_rune _ pos hp'
  rw [run_next_any_at (P := Tryd.prog) wr k _ pos ty h.at_ hp', hd]
theorem Going.stop {k pos : Nat} {l : List UInt8} {wr : World} (h : Going k l pos wr) (hp : ¬ pos < l.length) (ty : TypeId) :
    (Instr.next (.pointer (some ⟨k, 0, none⟩)) true ty).run Tryd.prog wr = .ok (.tuple #[.bool false]) wr :=
  run_next_end_at (P := Tryd.prog) wr k _ pos ty h.at_ (by rw [str_size]; exact hp)
theorem Going.step {k pos : Nat} {l : List UInt8} {wr : World} (h : Going k l pos wr) (q : Nat) : Going k l q (wr.iterAt k ⟨l.toArray⟩ q) := ⟨iterAt_heap wr k _ pos q h.at_⟩
theorem Going.grow {k pos : Nat} {l : List UInt8} {wr w' : World} (h : Going k l pos wr) (hb : Grow wr w') : Going k l pos w' := ⟨(hb.block k (heap_lt h.at_)).trans h.at_⟩
end Go.Proofs.YtcnijmmpkahoaaaDoor
