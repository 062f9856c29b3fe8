/-
  Exact numbers and whole ones that came in. Nothing is claimed here by itself.
-/
import Derived.Test.YtkebngldmcoaaaaGreatDoorDecMem
import Derived.Test.YtkebngldmcoaaaaGreatDoorDec
import Derived.Deep.SlicePairs
import Derived.OpenShut
import Derived.ChangeSlices
import Derived.KernelRfl
namespace Go.Proofs.YtkebngldmcoaaaaGreatDoor
open Go.RowKit Go.ChangeShapes Go.WideShapes Go.Joins
set_option linter.unusedVariables false
set_option linter.unusedSimpArgs false

theorem in_wf {n : Int} (h : (Lit.int .i64 n).wf = true) : In n := bounds_i64 h
def intIn : Value → Int | .int _ n => n | _ => 0
def IsDecs (w : World) (a : Option Addr) (len cap : Nat) (ds : List (Int × Int)) : Prop :=
  ds.length = len ∧ len ≤ 9223372036854775807 ∧ Decs w w.heap.size a ds ∧ ∀ x ∈ ds, In x.1 ∧ In x.2
section
variable {H : Type} {enc : TypeId × Value → H} {W : World}
theorem open_decs_cell {fuel : Nat} {v : Value} {x : DataW H × List MemPlace} (h : DataW.trod enc Tryz.prog W 0 (fun _ => true) true fuel 23 [v] = some x) :
    ∃ A c ds, v = .slice A ds.length c ∧ ds.length ≤ 9223372036854775807 ∧ Decs W W.heap.size A ds ∧ ∀ x ∈ ds, In x.1 ∧ In x.2 := by
  rcases Go.Deep.open_slice_pairs Tryz.underlying23 Tryz.underlying28 (by kernel_rfl) (by kernel_rfl) (by kernel_rfl) (by kernel_rfl) (by kernel_rfl) h with ⟨hcs, _⟩ | ⟨x, l, c, m, n, V0, V1, D0, D1, P0, P1, hcs, _, hl, hm, hmm, _, hall⟩
  · simp at hcs
    exact ⟨none, 0, [], hcs, by decide, Decs.none_, fun x hx => by cases hx⟩
  · simp at hcs
    have hlm : l ≤ m := by rw [hmm]; split <;> omega
    have hint : ∀ i, i < l → V0 i = .int .i64 (intIn (V0 i)) ∧ V1 i = .int .i64 (intIn (V1 i)) ∧ In (intIn (V0 i)) ∧ In (intIn (V1 i)) := fun i hi => by
      obtain ⟨_, _, t0, t1⟩ := hall i (by omega)
      obtain ⟨n0, e0, _, w0⟩ := DataW.trod_int (k := .i64) Tryz.underlying3 t0
      obtain ⟨n1, e1, _, w1⟩ := DataW.trod_int (k := .i64) Tryz.underlying3 t1
      simp only [List.cons.injEq, and_true] at e0 e1
      have hb0 := bounds_i64 w0
      have hb := bounds_i64 w1
      rw [e0, e1]
      refine ⟨rfl, rfl, ⟨?_, ?_⟩, ⟨?_, ?_⟩⟩ <;> simp only [intIn] <;> omega
    have hlen : ((List.range l).map fun i => (intIn (V0 i), intIn (V1 i))).length = l := by simp
    refine ⟨some x, c, (List.range l).map fun i => (intIn (V0 i), intIn (V1 i)), by rw [hlen]; exact hcs, by rw [hlen]; exact Nat.le_trans hl hm, fun hp => ?_, fun y hy => ?_⟩
    · rw [hlen] at hp
      have h0 := (hall 0 (by omega)).1
      obtain ⟨b, off, spot⟩ := x
      have hspot : spot = none := by simpa [Addr.add] using World.cell?_spot h0
      subst hspot
      refine ⟨b, off, rfl, by simpa [Addr.add] using block_lt_of_cell h0, fun i hi => ?_⟩
      rw [hlen] at hi
      obtain ⟨h1, h2, _, _⟩ := hall i (by omega)
      have e : ((List.range l).map fun i => (intIn (V0 i), intIn (V1 i))).getD i (0, 0) = (intIn (V0 i), intIn (V1 i)) := by simp [hi]
      rw [e]
      rw [Addr.add_lit] at h1 h2
      obtain ⟨q0, q1, _⟩ := hint i hi
      exact ⟨by rw [h1]; exact congrArg some q0, by rw [show off + i * 2 + 1 = off + (i * 2 + 1) by omega, h2]; exact congrArg some q1⟩
    · simp only [List.mem_map, List.mem_range] at hy
      obtain ⟨i, hi, rfl⟩ := hy
      exact (hint i hi).2.2
set_option maxRecDepth 100000 in
theorem open_decs {base : Nat} {v : Value} {d : DataW H} {p : List MemPlace} (hv : Value.okWide Tryz.prog W .any base 23 v)
    (h : DataW.Trod enc Tryz.prog W 0 (fun _ => true) true 23 v d p) : ∃ a len cap zs, v = .slice a len cap ∧ IsDecs W a len cap zs := by
  obtain ⟨a, len, cap, rfl⟩ := okWide_slice Tryz.underlying23 hv
  obtain ⟨fuel, hf⟩ := h
  have hf' : DataW.trod enc Tryz.prog W 0 (fun _ => true) true fuel 23 [.slice a len cap] = some (d, p) := hf
  obtain ⟨A, c, ds, e, l, m, i⟩ := open_decs_cell hf'
  obtain ⟨e1, e2, e3⟩ := Value.slice.inj e
  subst e1 e2 e3
  exact ⟨_, _, _, ds, rfl, rfl, l, m, i⟩
end
set_option maxRecDepth 100000 in
theorem nums_of_row {w : World} {a : Option Addr} {len cap : Nat} {zs : List Int}
    (h : (a = none ∧ len = 0 ∧ cap = 0 ∧ zs = []) ∨
      ∃ x, a = some x ∧ len ≤ cap ∧ cap ≤ maxLen ∧ zs.length = cap ∧ (∀ i, i < zs.length → w.cell? (x.add i) = some (.int .i64 (zs.getD i 0))) ∧ ∀ n ∈ zs, (Lit.int .i64 n).wf = true) :
    ∃ xs : List Int, xs.length = len ∧ len ≤ 9223372036854775807 ∧ Nums .i64 w w.heap.size a xs ∧ len ≤ cap ∧ ∀ x ∈ xs, In x := by
  rcases h with ⟨rfl, rfl, rfl, rfl⟩ | ⟨x, rfl, hl, hm, hz, hcell, hwf⟩
  · exact ⟨[], rfl, Nat.zero_le _, Nums.none_, Nat.le_refl _, fun x hx => by cases hx⟩
  · refine ⟨zs.take len, by simp; omega, Nat.le_trans hl hm, fun hp => ?_, hl, fun y hy => ?_⟩
    · have hp' : 0 < zs.length := by simp at hp; omega
      have h0 := hcell 0 hp'
      obtain ⟨b, off, spot⟩ := x
      have hspot : spot = none := by simpa [Addr.add] using World.cell?_spot h0
      subst hspot
      refine ⟨b, off, rfl, by simpa [Addr.add] using block_lt_of_cell h0, fun i hi => ?_⟩
      have hi1 : i < len ∧ i < zs.length := by simp at hi; omega
      have hc := hcell i hi1.2
      rw [Addr.add_lit] at hc
      rw [hc]
      simp [hi1.1]
    · have hb := bounds_i64 (hwf y (List.mem_of_mem_take hy))
      exact ⟨by omega, by omega⟩
end Go.Proofs.YtkebngldmcoaaaaGreatDoor
