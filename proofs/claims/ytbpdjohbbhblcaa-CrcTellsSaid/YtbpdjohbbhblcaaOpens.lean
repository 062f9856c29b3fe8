/-
  What a table and a list of parts that came in read as. Nothing is claimed here by itself.
-/
import Derived.Test.YtbpdjohbbhblcaaUnlikeAll
import Derived.Deep.Matrix
import Derived.WideShapes
namespace Go.Proofs.Ytbpdjohbbhblcaa
open Go.RowKit Go.WideShapes

theorem okWide_tab {W : World} {r : Reach} {base : Nat} {v : Value} (h : Value.okWide Try.prog W r base 24 v) : ∃ cs, v = .agg cs ∧ cs.size = Try.prog.cellsOf 24 := by
  simp only [Value.okWide, Try.underlying24] at h
  obtain ⟨cs, h1, h2, _⟩ := h
  exact ⟨cs, h1, h2⟩

theorem cells24 : Try.prog.cellsOf 24 = 256 := by kernel_rfl

def tabOf (cs : Array Value) (i : Nat) : Nat := match cs[i]? with | some (.int _ n) => n.toNat | _ => 0

theorem open_tab {H : Type} {enc : TypeId × Value → H} {W : World} {base : Nat} {v : Value} {d : DataW H} {p : List MemPlace} (hv : Value.okWide Try.prog W .any base 24 v)
    (h : DataW.Trod enc Try.prog W 0 (fun _ => true) true 24 v d p) : ∃ c T, v = .agg c ∧ IsTab c T := by
  obtain ⟨cs, rfl, hs⟩ := okWide_tab hv
  rw [cells24] at hs
  obtain ⟨fuel, hf⟩ := h
  obtain ⟨xs, m, _, _, _, hl, hall⟩ := DataW.trod_array Try.underlying24 hf
  have each : ∀ i, i < 256 → ∃ n : Int, cs[i]? = some (.int .u32 n) ∧ 0 ≤ n ∧ n ≤ 4294967295 := fun i hi => by
    have h1 := hall i hi
    rw [cells22, Nat.mul_one, List.getElem?_eq_getElem (by rw [hl]; exact hi)] at h1
    obtain ⟨n, hn, _, hw⟩ := DataW.trod_int Try.underlying22 h1
    have hb := bounds_u32 hw
    refine ⟨n, ?_, hb⟩
    have h2 : ((cs.toList.drop i).take 1)[0]? = some (.int .u32 n) := by
      have : ((Value.agg cs).cells.toList.drop i).take 1 = [.int .u32 n] := hn
      have e : (Value.agg cs).cells = cs := rfl
      rw [e] at this
      rw [this]
      rfl
    simpa using h2
  refine ⟨cs, tabOf cs, rfl, hs, fun i hi => ?_, fun i hi => ?_⟩
  · obtain ⟨n, hn, h0, h1⟩ := each i hi
    rw [hn]
    simp only [tabOf, hn]
    rw [Int.toNat_of_nonneg h0]
  · obtain ⟨n, hn, h0, h1⟩ := each i hi
    simp only [tabOf, hn]
    omega

def IsParts (w : World) (a : Option Addr) (len : Nat) (zs : List (List Int)) : Prop :=
  zs.length = len ∧ len ≤ 9223372036854775807 ∧ Prts w w.heap.size a zs ∧ ∀ i, (zs.getD i []).length ≤ 9223372036854775807 ∧ Byt (zs.getD i [])

theorem open_parts {H : Type} {enc : TypeId × Value → H} {W : World} {base : Nat} {v : Value} {d : DataW H} {p : List MemPlace} (hv : Value.okWide Try.prog W .any base 27 v)
    (h : DataW.Trod enc Try.prog W 0 (fun _ => true) true 27 v d p) : ∃ a len cap zs, v = .slice a len cap ∧ IsParts W a len zs := by
  obtain ⟨a, len, cap, rfl⟩ := okWide_slice Try.underlying27 hv
  obtain ⟨fuel, hf⟩ := h
  rcases Go.Deep.open_int_rows Try.underlying27 Try.underlying28 Try.underlying5 (by kernel_rfl) (by kernel_rfl) hf with ⟨hcs, _⟩ | ⟨x, l, c, A, L, C, Z, hcs, _, hl, hm, _, hall⟩
  · simp [Value.cells] at hcs
    obtain ⟨rfl, rfl, rfl⟩ := hcs
    exact ⟨none, 0, 0, [], rfl, rfl, Nat.zero_le _, Prts.none_, fun i => ⟨by simp, byt_nil⟩⟩
  · simp [Value.cells] at hcs
    obtain ⟨rfl, rfl, rfl⟩ := hcs
    refine ⟨some x, len, cap, (List.range len).map fun r => (Z r).take (L r), rfl, by simp, Nat.le_trans hl hm, fun hp => ?_, fun i => ?_⟩
    · have hlen : 0 < len := by simpa using hp
      have h0 := (hall 0 (by omega)).1
      obtain ⟨b, off, spot⟩ := x
      have hspot : spot = none := by simpa [Addr.add] using World.cell?_spot h0
      subst hspot
      refine ⟨b, off, rfl, by simpa [Addr.add] using block_lt h0, fun i hi => ?_⟩
      have hi' : i < len := by simpa using hi
      obtain ⟨hcell, hLC, hCm, hZ, hwf, hnil, hA⟩ := hall i (by omega)
      have e : ((List.range len).map fun r => (Z r).take (L r)).getD i [] = (Z i).take (L i) := by simp [hi']
      have e2 : ((Z i).take (L i)).length = L i := by rw [List.length_take, hZ]; omega
      rw [e, e2]
      rw [Addr.add_lit] at hcell
      refine ⟨A i, C i, hcell, hnil, ?_⟩
      intro hp2
      rw [e2] at hp2
      cases hAi : A i with
      | none => have := hnil hAi; omega
      | some a' =>
        have hA' := (hA a' hAi).2
        have h00 := hA' 0 (by omega)
        obtain ⟨b', off', spot'⟩ := a'
        have hspot' : spot' = none := by simpa [Addr.add] using World.cell?_spot h00
        subst hspot'
        refine ⟨b', off', rfl, by simpa [Addr.add] using block_lt h00, fun j hj => ?_⟩
        rw [e2] at hj
        have hc := hA' j (by omega)
        rw [Addr.add_lit] at hc
        rw [hc]
        simp [hj]
    · by_cases hi : i < len
      · obtain ⟨hcell, hLC, hCm, hZ, hwf, hnil, hA⟩ := hall i (by omega)
        have e : ((List.range len).map fun r => (Z r).take (L r)).getD i [] = (Z i).take (L i) := by simp [hi]
        rw [e]
        refine ⟨by rw [List.length_take, hZ]; unfold maxLen at hCm; omega, fun n hn => ?_⟩
        have := bounds_u8 (hwf n (List.mem_of_mem_take hn))
        omega
      · have e : ((List.range len).map fun r => (Z r).take (L r)).getD i [] = [] := by simp [hi]
        rw [e]
        exact ⟨by simp, byt_nil⟩
end Go.Proofs.Ytbpdjohbbhblcaa
