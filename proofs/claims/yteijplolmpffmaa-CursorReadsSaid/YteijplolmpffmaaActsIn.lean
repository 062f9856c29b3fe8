/-
  Acts that came in. Nothing is claimed here by itself.
-/
import Derived.Test.YteijplolmpffmaaActs
import Derived.Deep.SlicePairs
import Derived.OpenShut
namespace Go.Proofs.Yteijplolmpffmaa
open Go.RowKit Go.ChangeShapes Go.WideShapes

def IsActs (w : World) (a : Option Addr) (len : Nat) (zs : List (Int × Int)) : Prop := zs.length = len ∧ len ≤ 9223372036854775807 ∧ Acts w w.heap.size a zs ∧ I64 zs

def intIn : Value → Int | .int _ n => n | _ => 0

theorem open_acts {H : Type} {enc : TypeId × Value → H} {W : World} {base : Nat} {v : Value} {d : DataW H} {p : List MemPlace} (hv : Value.okWide Try.prog W .any base 23 v)
    (h : DataW.Trod enc Try.prog W 0 (fun _ => true) true 23 v d p) : ∃ a len cap zs, v = .slice a len cap ∧ IsActs W a len zs := by
  obtain ⟨a, len, cap, rfl⟩ := okWide_slice Try.underlying23 hv
  obtain ⟨fuel, hf⟩ := h
  rcases Go.Deep.open_slice_pairs Try.underlying23 Try.underlying30 (by kernel_rfl) (by kernel_rfl) (by kernel_rfl) (by kernel_rfl) (by kernel_rfl) hf with ⟨hcs, _⟩ | ⟨x, l, c, m, n, V0, V1, D0, D1, P0, P1, hcs, _, hl, hm, hmm, _, hall⟩
  · simp [Value.cells] at hcs
    obtain ⟨rfl, rfl, rfl⟩ := hcs
    exact ⟨none, 0, 0, [], rfl, rfl, Nat.zero_le _, fun h => by simp at h, fun x hx => by cases hx⟩
  · simp [Value.cells] at hcs
    obtain ⟨rfl, rfl, rfl⟩ := hcs
    have hlm : len ≤ m := by rw [hmm]; split <;> omega
    have hint : ∀ i, i < len → (V0 i = .int .i64 (intIn (V0 i)) ∧ V1 i = .int .i64 (intIn (V1 i))) ∧ -9223372036854775808 ≤ intIn (V1 i) ∧ intIn (V1 i) < 9223372036854775808 := fun i hi => by
      obtain ⟨_, _, t0, t1⟩ := hall i (by omega)
      obtain ⟨n0, e0, _, _⟩ := DataW.trod_int (k := .i64) Try.underlying3 t0
      obtain ⟨n1, e1, _, w1⟩ := DataW.trod_int (k := .i64) Try.underlying3 t1
      simp only [List.cons.injEq, and_true] at e0 e1
      have hb := bounds_i64 w1
      rw [e0, e1]
      exact ⟨⟨rfl, rfl⟩, hb.1, by show n1 < _; omega⟩
    refine ⟨some x, len, cap, (List.range len).map fun i => (intIn (V0 i), intIn (V1 i)), rfl, by simp, Nat.le_trans hl hm, fun hp => ?_, fun y hy => ?_⟩
    · have hlen : 0 < len := by simpa using hp
      have h0 := (hall 0 (by omega)).1
      obtain ⟨b, off, spot⟩ := x
      have hspot : spot = none := by simpa [Addr.add] using World.cell?_spot h0
      subst hspot
      refine ⟨b, off, rfl, by simpa [Addr.add] using block_lt h0, fun i hi => ?_⟩
      have hi' : i < len := by simpa using hi
      obtain ⟨h1, h2, _, _⟩ := hall i (by omega)
      have e : ((List.range len).map fun i => (intIn (V0 i), intIn (V1 i))).getD i (0, 0) = (intIn (V0 i), intIn (V1 i)) := by simp [hi']
      rw [e]
      rw [Addr.add_lit] at h1 h2
      obtain ⟨⟨q0, q1⟩, _⟩ := hint i hi'
      exact ⟨by rw [h1]; exact congrArg some q0, by rw [show off + i * 2 + 1 = off + (i * 2 + 1) by omega, h2]; exact congrArg some q1⟩
    · simp only [List.mem_map, List.mem_range] at hy
      obtain ⟨i, hi, rfl⟩ := hy
      exact (hint i hi).2
end Go.Proofs.Yteijplolmpffmaa
