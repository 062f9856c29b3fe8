/-
  The cells of rows of nodes, one row behind the other. Nothing is claimed here by itself.
-/
import Derived.Test.YtfdlngcaopcaoaaCuts
import Derived.Test.YtfdlngcaopcaoaaHold1
namespace Go.Proofs.Ytfdlngcaopcaoaa
open Go.RowKit Go.Lib
set_option linter.unusedSimpArgs false
set_option linter.unusedVariables false

/-- these cells are the nodes ns, whose rows lie below block B -/
def RawN (w : World) (B : Nat) (vals : List Value) (ns : List Nd) : Prop :=
  vals.length = ns.length * 4 ∧ ∀ i, i < ns.length → ∃ A1 c1 A2 c2 A3 c3, vals[i * 4]? = some (.int .i64 (ns.getD i nd0).kind) ∧ vals[i * 4 + 1]? = some (.slice A1 (ns.getD i nd0).shp.length c1) ∧
    vals[i * 4 + 2]? = some (.slice A2 (ns.getD i nd0).ints.length c2) ∧ vals[i * 4 + 3]? = some (.slice A3 (ns.getD i nd0).decs.length c3) ∧ IsNd w B A1 A2 A3 (ns.getD i nd0)
section
variable {w w' : World} {B B' : Nat} {vals us : List Value} {ns ms : List Nd}
theorem RawN.nil : RawN w B [] [] := ⟨rfl, fun i hi => absurd hi (by simp)⟩
theorem RawN.below (h : RawN w B vals ns) (hg : Below B w w') : RawN w' B vals ns := ⟨h.1, fun i hi => by
  obtain ⟨A1, c1, A2, c2, A3, c3, h0, h1, h2, h3, h4⟩ := h.2 i hi
  exact ⟨A1, c1, A2, c2, A3, c3, h0, h1, h2, h3, h4.below hg⟩⟩
theorem RawN.more (h : RawN w B vals ns) (hB : B ≤ B') : RawN w B' vals ns := ⟨h.1, fun i hi => by
  obtain ⟨A1, c1, A2, c2, A3, c3, h0, h1, h2, h3, h4⟩ := h.2 i hi
  exact ⟨A1, c1, A2, c2, A3, c3, h0, h1, h2, h3, h4.more hB⟩⟩
theorem RawN.app (h : RawN w B vals ns) (k : RawN w B us ms) : RawN w B (vals ++ us) (ns ++ ms) := by
  obtain ⟨hl, hh⟩ := h
  obtain ⟨kl, kh⟩ := k
  refine ⟨by rw [List.length_append, List.length_append, hl, kl]; omega, fun i hi => ?_⟩
  by_cases h : i < ns.length
  · have e : (ns ++ ms).getD i nd0 = ns.getD i nd0 := by simp [List.getD, List.getElem?_append_left h]
    rw [e]
    obtain ⟨A1, c1, A2, c2, A3, c3, h0, h1, h2, h3, h4⟩ := hh i h
    refine ⟨A1, c1, A2, c2, A3, c3, ?_, ?_, ?_, ?_, h4⟩
    all_goals (rw [List.getElem?_append_left (by omega)]; assumption)
  · rw [List.length_append] at hi
    have e : (ns ++ ms).getD i nd0 = ms.getD (i - ns.length) nd0 := by simp [List.getD, List.getElem?_append_right (Nat.le_of_not_lt h)]
    rw [e]
    obtain ⟨A1, c1, A2, c2, A3, c3, h0, h1, h2, h3, h4⟩ := kh (i - ns.length) (by omega)
    refine ⟨A1, c1, A2, c2, A3, c3, ?_, ?_, ?_, ?_, h4⟩
    · rw [List.getElem?_append_right (by omega), ← h0]; congr 1; omega
    · rw [List.getElem?_append_right (by omega), ← h1]; congr 1; omega
    · rw [List.getElem?_append_right (by omega), ← h2]; congr 1; omega
    · rw [List.getElem?_append_right (by omega), ← h3]; congr 1; omega
end
theorem raw_of {w : World} {B : Nat} {A : Option Addr} {ns : List Nd} (h : Nodes w B A ns) : ∃ vs, RawN w B vs ns ∧ Ones vs ∧ Src w A vs := by
  obtain ⟨vs, hl, h1, hs, hc⟩ := src_nodes h
  refine ⟨vs, ⟨hl, fun i hi => ?_⟩, h1, hs⟩
  obtain ⟨b, off, rfl, hb, hat⟩ := h (by omega)
  obtain ⟨A1, c1, A2, c2, A3, c3, p0, p1, p2, p3, hnd⟩ := hat i hi
  have cell : ∀ j v, j < ns.length * 4 → w.cell? ⟨b, off + j, none⟩ = some v → vs[j]? = some v := fun j v hj hv => by
    obtain ⟨u, hu, hcu⟩ := hc b off rfl j hj
    rw [hv] at hcu
    cases hcu
    exact hu
  exact ⟨A1, c1, A2, c2, A3, c3, cell _ _ (by omega) p0, cell _ _ (by omega) p1, cell _ _ (by omega) p2, cell _ _ (by omega) p3, hnd⟩
/-- a row of one's own with these cells holds the nodes -/
theorem own_nodes {w : World} {base n : Nat} {v : Value} {vals : List Value} {ns : List Nd} (ho : w.ownsRow base 32 4 v n vals) (hr : RawN w w.heap.size vals ns) (hn : ns.length = n) :
    ∃ A c, v = .slice A n c ∧ n ≤ c ∧ (A = none → c = 0) ∧ Nodes w w.heap.size A ns := by
  rcases ho.2 with ⟨rfl, h0⟩ | ⟨g, cap, cur, rfl, hbg, hgg, hnc, hcm, hsz, htake⟩
  · subst h0
    refine ⟨none, 0, rfl, Nat.le_refl _, fun _ => rfl, ?_⟩
    rw [List.eq_nil_of_length_eq_zero hn]
    exact Nodes.none_
  · refine ⟨some ⟨g, 0, none⟩, cap, rfl, hnc, (fun e => by cases e), fun hp => ⟨g, 0, rfl, heap_lt hgg, fun i hi => ?_⟩⟩
    obtain ⟨A1, c1, A2, c2, A3, c3, h0, h1, h2, h3, h4⟩ := hr.2 i hi
    have hl := hr.1
    have cell : ∀ j v, vals[j]? = some v → w.cell? ⟨g, j, none⟩ = some v := fun j v hv => by
      have hj : j < n * 4 := by
        have := (List.getElem?_eq_some_iff.1 hv).1
        omega
      rw [cell_of_row w g j cur _ (0, 0) hgg, ← hv, ← htake, List.getElem?_take, if_pos hj, Array.getElem?_toList]
    rw [Nat.zero_add]
    exact ⟨A1, c1, A2, c2, A3, c3, cell _ _ h0, cell _ _ h1, cell _ _ h2, cell _ _ h3, h4⟩
theorem ownsRow_grow {w w' : World} {base size n : Nat} {t : TypeId} {v : Value} {vals : List Value} (ho : w.ownsRow base t size v n vals) (hg : Grow w w') : w'.ownsRow base t size v n vals :=
  ⟨ho.1, by
    rcases ho.2 with h0 | ⟨g', cap', cur, hv, hbg, hgg, rest⟩
    · exact .inl h0
    · exact .inr ⟨g', cap', cur, hv, hbg, (hg.block g' (heap_lt hgg)).trans hgg, rest⟩⟩
/-- any nodes behind a row of one's own -/
theorem wpList_append_raw {ops : Array Oper} {rest : List Oper} {o : Oper} {a : Act} {w : World} {Q : Exit → Act → World → Prop} (hgd : o.guard = none) (s x : Operand)
    (ho : o.op = .call { callee := .builtin .append, args := #[s, x], argTypes := #[22, 22] }) (base B n m c : Nat) (v : Value) (vals : List Value) (ns ms : List Nd) (A : Option Addr)
    (hs : a.eval s = v) (hown : w.ownsRow base 32 4 v n vals) (hr : RawN w B vals ns) (hx : a.eval x = .slice A m c) (hm : ms.length = m) (hms : Nodes w B A ms) (h0 : 0 < m) (hb : n + m ≤ 1000000000) (hbase : base ≤ w.heap.size) (hB : B ≤ base)
    (h : ∀ v' w' vals', Hid (w'.ownsRow base 32 4 v' (n + m) vals') → Hid (RawN w' B vals' (ns ++ ms)) → Hid (Below base w w') → wpList Try.prog ops Q rest (a.put o.dst v') w') : wpList Try.prog ops Q (o :: rest) a w := by
  obtain ⟨i0, hi, hz0, hz1, hz2⟩ := info_of info_node
  obtain ⟨vs, hraw, hones, hsrc⟩ := raw_of hms
  have hvl : vs.length = m * 4 := by rw [hraw.1, hm]
  obtain ⟨ad, rfl, hcell⟩ := hsrc (by omega)
  refine wpList_append_own w hgd s x 22 ho base 32 i0 _ 4 80 Try.underlying22 hi hz0 hz1 hz2 rfl (by decide) v n vals hs hown ad m c vs hx hvl hcell hones (by unfold maxLen; omega) (by omega) hbase ?_
  intro v' w' hown' hgrow _
  have hbel : Below base w w' := Below.grown (Below.refl _ _) hgrow hbase (fun g hg => (hown.lt g hg).1)
  exact h v' w' _ (Lib.hid hown') (Lib.hid ((hr.below (Below.mono hbel hB)).app (hraw.below (Below.mono hbel hB)))) (Lib.hid hbel)
end Go.Proofs.Ytfdlngcaopcaoaa
