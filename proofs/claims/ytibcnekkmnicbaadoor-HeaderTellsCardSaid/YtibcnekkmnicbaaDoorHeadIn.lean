/-
  A head of a function that came in, read as lists of bytes. Nothing is claimed here by itself.
-/
import Derived.Test.YtibcnekkmnicbaaDoorHeadMem
import Derived.Test.YtibcnekkmnicbaaDoorStrsIn
import Derived.Test.YtibcnekkmnicbaaDoorProg
import Derived.OpenShut
import Derived.KernelRfl
namespace Go.Proofs.YtibcnekkmnicbaaDoor
open Go.RowKit Go.Lib Go.ChangeShapes Go.WideShapes

/-- the locals at a, of any length -/
def IsHead (w : World) (a : Option Addr) (len cap : Nat) (h : Hd) : Prop :=
  h.locs.length = len ∧ len ≤ 9223372036854775807 ∧ Strs w w.heap.size a h.locs ∧ (∀ s ∈ allH h, s.length ≤ 9223372036854775807) ∧ len ≤ cap ∧ cap ≤ 9223372036854775807 ∧ (a = none → cap = 0)

section
variable {H : Type} {enc : TypeId × Value → H} {W : World}
theorem open_strs_cell {fuel : Nat} {v : Value} {x : DataW H × List MemPlace} (h : DataW.trod enc Tryd.prog W 0 (fun _ => true) true fuel 22 [v] = some x) :
    ∃ a len cap zs, v = .slice a len cap ∧ IsStrs W a len cap zs := by
  rcases open_strings Tryd.underlying22 Tryd.underlying9 (by kernel_rfl) h with ⟨hcs, _⟩ | ⟨x, l, c, zs, hcs, _, hl, hm, hz, _, hcell, hwz⟩
  · simp at hcs
    exact ⟨none, 0, 0, [], hcs, .inl ⟨rfl, rfl, rfl, rfl⟩⟩
  · simp at hcs
    exact ⟨some x, l, c, zs, hcs, .inr ⟨_, rfl, hl, hm, by simpa using hz, hcell, hwz⟩⟩
theorem open_str_cell {fuel : Nat} {v : Value} {x : DataW H × List MemPlace} (h : DataW.trod enc Tryd.prog W 0 (fun _ => true) true fuel 9 [v] = some x) :
    ∃ l : List UInt8, v = strv l ∧ l.length ≤ 9223372036854775807 := by
  obtain ⟨s, e, _, hs⟩ := DataW.trod_string Tryd.underlying9 h
  simp at e
  refine ⟨s.data.toList, by rw [e]; exact congrArg Value.string (str_list s), ?_⟩
  unfold maxLen at hs
  rw [size_eq] at hs
  exact hs
theorem open_head {base : Nat} {v : Value} {d : DataW H} {p : List MemPlace} (hv : Value.okWide Tryd.prog W .any base 24 v)
    (h : DataW.Trod enc Tryd.prog W 0 (fun _ => true) true 24 v d p) : ∃ (hd : Hd) (a : Option Addr) (len cap : Nat), v = hdV hd a len cap ∧ IsHead W a len cap hd := by
  obtain ⟨cs, rfl, hsz⟩ := okWide_struct Tryd.underlying24 hv
  have hC : Tryd.prog.cellsOf 24 = 7 := by kernel_rfl
  obtain ⟨l⟩ := cs
  rw [hC] at hsz
  match l, hsz with
  | [c0, c1, c2, c3, c4, c5, c6], _ =>
    obtain ⟨fuel, hf⟩ := h
    obtain ⟨xs, k, hk, hxy, _, hxl, hf⟩ := DataW.trod_struct Tryd.underlying24 hf
    match xs, hxl with
    | [y0, y1, y2, y3, y4, y5, y6], _ =>
      have g0 := hf 0 _ rfl
      have g1 := hf 1 _ rfl
      have g2 := hf 2 _ rfl
      have g3 := hf 3 _ rfl
      have g4 := hf 4 _ rfl
      have g5 := hf 5 _ rfl
      have g6 := hf 6 _ rfl
      have k1 : Tryd.prog.cellsOf 9 = 1 := by kernel_rfl
      have k2 : Tryd.prog.cellsOf 22 = 1 := by kernel_rfl
      simp [k1, k2, Value.cells] at g0 g1 g2 g3 g4 g5 g6
      obtain ⟨l0, rfl, m0⟩ := open_str_cell g0
      obtain ⟨l1, rfl, m1⟩ := open_str_cell g1
      obtain ⟨l2, rfl, m2⟩ := open_str_cell g2
      obtain ⟨l3, rfl, m3⟩ := open_str_cell g3
      obtain ⟨l4, rfl, m4⟩ := open_str_cell g4
      obtain ⟨l5, rfl, m5⟩ := open_str_cell g5
      obtain ⟨a, len, cap, zs, rfl, hz⟩ := open_strs_cell g6
      obtain ⟨ls, q1, q2, q3, q4, q5, q6, q7⟩ := strs_of_row hz
      refine ⟨⟨l0, l1, l2, l3, l4, l5, ls⟩, a, len, cap, rfl, q1, q2, q3, ?_, q5, q6, q7⟩
      intro s hs
      simp only [allH, List.mem_cons] at hs
      rcases hs with rfl | rfl | rfl | rfl | rfl | rfl | hs
      · exact m0
      · exact m1
      · exact m2
      · exact m3
      · exact m4
      · exact m5
      · exact q4 s hs
end
end Go.Proofs.YtibcnekkmnicbaaDoor
