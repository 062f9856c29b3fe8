/-
  Rows of nodes that came in. Nothing is claimed here by itself.
-/
import Derived.Test.YtcljpcbgokgcdaaNodesIn
import Derived.Test.YtcljpcbgokgcdaaCuts
namespace Go.Proofs.Ytcljpcbgokgcdaa
open Go.RowKit Go.ChangeShapes Go.WideShapes

def IsKids (w : World) (a : Option Addr) (len cap : Nat) (ks : List (List Nd)) : Prop :=
  ks.length = len ∧ len ≤ cap ∧ cap ≤ 9223372036854775807 ∧
  (0 < ks.length → ∃ b off, a = some ⟨b, off, none⟩ ∧ b < w.heap.size ∧ ∀ i, i < ks.length → ∃ A' c', w.cell? ⟨b, off + i, none⟩ = some (.slice A' (ks.getD i []).length c') ∧ IsNodes w A' (ks.getD i []).length c' (ks.getD i []))
theorem IsKids.at_ {w : World} {a : Option Addr} {len cap : Nat} {ks : List (List Nd)} (h : IsKids w a len cap ks) : KidsAt w w.heap.size a ks := fun hp => by
  obtain ⟨b, off, e, hb, hi⟩ := h.2.2.2 hp
  refine ⟨b, off, e, hb, fun i hk => ?_⟩
  obtain ⟨A', c', h1, h2⟩ := hi i hk
  exact ⟨A', c', h1, h2.2.1, h2.2.2.2.1⟩

section
variable {H : Type} {enc : TypeId × Value → H} {W : World}
theorem open_nodes_cell {fuel : Nat} {v : Value} {y : DataW H × List MemPlace} (hf : DataW.trod enc Try.prog W 0 (fun _ => true) true fuel 22 [v] = some y) :
    ∃ a len cap zs, v = .slice a len cap ∧ IsNodes W a len cap zs := by
  rcases Go.Deep.open_slice Try.underlying22 hf with ⟨hcs, _⟩ | ⟨x, len, cap, m, n, D, Pl, hcs, _, hl, hm, hmm, _, hall⟩
  · simp at hcs
    exact ⟨none, 0, 0, [], hcs, rfl, Nat.le_refl _, by decide, Nodes.none_, fun n hn => by cases hn⟩
  · simp at hcs
    have hlm : len ≤ m := by rw [hmm]; split <;> omega
    rw [show Try.prog.cellsOf 30 = 4 by kernel_rfl] at hall
    have each : ∀ i, i < len → ∃ nd : Nd, ∃ b off, x = ⟨b, off, none⟩ ∧ NodeAt W W.heap.size b (off + i * 4) nd ∧ FitI nd := fun i hi => by
      obtain ⟨cs', h1, h2⟩ := hall i (by omega)
      obtain ⟨b, off, spot⟩ := x
      have hspot : spot = none := by
        obtain ⟨cs0, q1, _⟩ := hall 0 (by omega)
        have hl := (World.cells?_some q1).2.1
        have q0 := (World.cells?_some q1).2.2 0 (by omega)
        match cs0, hl, q0 with
        | v0 :: _, _, q0 =>
          have := World.cell?_spot (by simpa using q0)
          simpa [Addr.add] using this
      subst hspot
      rw [Addr.add_lit] at h1
      obtain ⟨nd, h3, h4⟩ := open_node_cells h1 h2
      exact ⟨nd, b, off, rfl, h3, h4⟩
    obtain ⟨f, hF⟩ := Go.Deep.choose_lt each
    have hlen : ((List.range len).map f).length = len := by simp
    refine ⟨some x, len, cap, (List.range len).map f, hcs, hlen, hl, hm, fun hp => ?_, fun y hy => ?_⟩
    · rw [hlen] at hp
      obtain ⟨b, off, rfl, h0, _⟩ := hF 0 hp
      refine ⟨b, off, rfl, ?_, fun i hi => ?_⟩
      · obtain ⟨A1, c1, A2, c2, A3, c3, k0, _⟩ := h0
        exact block_lt_of_cell k0
      · rw [hlen] at hi
        obtain ⟨b', off', e, h1, _⟩ := hF i hi
        cases e
        have e : ((List.range len).map f).getD i nd0 = f i := by simp [hi]
        rw [e]
        exact h1
    · simp only [List.mem_map, List.mem_range] at hy
      obtain ⟨i, hi, rfl⟩ := hy
      obtain ⟨_, _, _, _, h4⟩ := hF i hi
      exact h4
theorem open_kids {base : Nat} {v : Value} {d : DataW H} {p : List MemPlace} (hv : Value.okWide Try.prog W .any base 38 v)
    (h : DataW.Trod enc Try.prog W 0 (fun _ => true) true 38 v d p) : ∃ a len cap zs, v = .slice a len cap ∧ IsKids W a len cap zs := by
  obtain ⟨a, len, cap, rfl⟩ := okWide_slice Try.underlying38 hv
  obtain ⟨fuel, hf⟩ := h
  rcases Go.Deep.open_slice1 Try.underlying38 (by kernel_rfl) hf with ⟨hcs, _⟩ | ⟨x, l, c, m, n, V, D, Pl, hcs, _, hl, hm, hmm, _, hall⟩
  · simp [Value.cells] at hcs
    obtain ⟨rfl, rfl, rfl⟩ := hcs
    exact ⟨none, 0, 0, [], rfl, rfl, Nat.le_refl _, by decide, fun hp => absurd hp (by simp)⟩
  · simp [Value.cells] at hcs
    obtain ⟨rfl, rfl, rfl⟩ := hcs
    have hlm : len ≤ m := by rw [hmm]; split <;> omega
    have each : ∀ i, i < len → ∃ k : List Nd, ∃ b off A' c', x = ⟨b, off, none⟩ ∧ W.cell? ⟨b, off + i, none⟩ = some (.slice A' k.length c') ∧ IsNodes W A' k.length c' k := fun i hi => by
      obtain ⟨h1, h2⟩ := hall i (by omega)
      obtain ⟨A', l', c', k, e, hk⟩ := open_nodes_cell h2
      obtain rfl := hk.1
      obtain ⟨b, off, spot⟩ := x
      have hspot : spot = none := by
        have := World.cell?_spot (hall 0 (by omega)).1
        simpa [Addr.add] using this
      subst hspot
      rw [Addr.add_lit, e] at h1
      exact ⟨k, b, off, A', c', rfl, h1, hk⟩
    obtain ⟨f, hF⟩ := Go.Deep.choose_lt each
    have hlen : ((List.range len).map f).length = len := by simp
    refine ⟨some x, len, cap, (List.range len).map f, rfl, hlen, hl, hm, fun hp => ?_⟩
    rw [hlen] at hp
    obtain ⟨b, off, A', c', rfl, h0, _⟩ := hF 0 hp
    refine ⟨b, off, rfl, block_lt_of_cell h0, fun i hi => ?_⟩
    rw [hlen] at hi
    obtain ⟨b', off', A', c', e, h1, h2⟩ := hF i hi
    cases e
    have e : ((List.range len).map f).getD i [] = f i := by simp [hi]
    rw [e]
    exact ⟨A', c', h1, h2⟩
end
end Go.Proofs.Ytcljpcbgokgcdaa
