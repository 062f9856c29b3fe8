/-
  A row of nodes with room, in which nodes are laid one behind the other; its nodes' lists lie elsewhere. Nothing is claimed here by itself.
-/
import Derived.Test.YtcljpcbgokgcdaaFold
namespace Go.Proofs.Ytcljpcbgokgcdaa
open Go.RowKit Go.Lib
set_option linter.unusedSimpArgs false
set_option linter.unusedVariables false

section
variable {g : Nat} {w w' : World} {A : Option Addr}
theorem kept_cell (hk : Kept (fun k => k = g) w w') {b o : Nat} {v : Value} (hb : ¬ b = g) (h : w.cell? ⟨b, o, none⟩ = some v) : w'.cell? ⟨b, o, none⟩ = some v :=
  (hk.cell (p := ⟨b, o, none⟩) (block_lt_of_cell h) hb).trans h
theorem NumsT.kept {xs : List Int} (h : NumsT (fun b => ¬ b = g) w A xs) (hk : Kept (fun k => k = g) w w') : NumsT (fun b => ¬ b = g) w' A xs := fun hn => by
  obtain ⟨b, off, e, hb, hc⟩ := h hn
  exact ⟨b, off, e, hb, fun i hi => kept_cell hk hb (hc i hi)⟩
theorem DecsT.kept {ds : List (Int × Int)} (h : DecsT (fun b => ¬ b = g) w A ds) (hk : Kept (fun k => k = g) w w') : DecsT (fun b => ¬ b = g) w' A ds := fun hn => by
  obtain ⟨b, off, e, hb, hc⟩ := h hn
  exact ⟨b, off, e, hb, fun i hi => ⟨kept_cell hk hb (hc i hi).1, kept_cell hk hb (hc i hi).2⟩⟩
theorem NodesT.kept {ns : List Nd} (h : NodesT (fun b => ¬ b = g) w A ns) (hk : Kept (fun k => k = g) w w') : NodesT (fun b => ¬ b = g) w' A ns := fun hn => by
  obtain ⟨b, off, e, hb, hc⟩ := h hn
  refine ⟨b, off, e, hb, fun i hi => ?_⟩
  obtain ⟨A1, c1, A2, c2, A3, c3, h0, h1, h2, h3, n1, n2, n3⟩ := hc i hi
  exact ⟨A1, c1, A2, c2, A3, c3, kept_cell hk hb h0, kept_cell hk hb h1, kept_cell hk hb h2, kept_cell hk hb h3, n1.kept hk, n2.kept hk, n3.kept hk⟩
theorem HeldN.kept {f : Nat → Value} {i : Nat} {n : Nd} (h : HeldN (fun b => ¬ b = g) w f i n) (hk : Kept (fun k => k = g) w w') {f' : Nat → Value} (hf : ∀ j, i * 4 ≤ j → j < i * 4 + 4 → f' j = f j) : HeldN (fun b => ¬ b = g) w' f' i n := by
  obtain ⟨A1, c1, A2, c2, A3, c3, h0, h1, h2, h3, n1, n2, n3⟩ := h
  exact ⟨A1, c1, A2, c2, A3, c3, by rw [hf _ (by omega) (by omega), h0], by rw [hf _ (by omega) (by omega), h1], by rw [hf _ (by omega) (by omega), h2], by rw [hf _ (by omega) (by omega), h3], n1.kept hk, n2.kept hk, n3.kept hk⟩
theorem NodesT.dropT {T : Nat → Prop} {b off : Nat} {ns : List Nd} (h : NodesT T w (some ⟨b, off, none⟩) ns) (k : Nat) : NodesT T w (some ⟨b, off + k * 4, none⟩) (ns.drop k) := fun hn => by
  rw [List.length_drop] at hn
  obtain ⟨b', off', e, hb, hc⟩ := h (by omega)
  cases e
  refine ⟨b, off + k * 4, rfl, hb, fun i hi => ?_⟩
  rw [List.length_drop] at hi
  have := hc (k + i) (by omega)
  have e2 : (ns.drop k).getD i nd0 = ns.getD (k + i) nd0 := by simp [List.getD]
  rw [e2, show off + k * 4 + i * 4 = off + (k + i) * 4 by omega]
  exact this
theorem NodesT.cut {T : Nat → Prop} {ns : List Nd} (h : NodesT T w A ns) (c k : Nat) (hc : ns.length ≤ c) : NodesT T w (cutA A c k) (ns.drop k) := by
  unfold cutA
  by_cases hck : c = k
  · rw [if_pos hck, List.drop_of_length_le (by omega)]
    exact fun hn => absurd hn (by simp)
  · rw [if_neg hck]
    cases A with
    | none =>
      intro hn
      rw [List.length_drop] at hn
      obtain ⟨b, off, e, _⟩ := h (by omega)
      cases e
    | some a =>
      intro hn
      rw [List.length_drop] at hn
      obtain ⟨b, off, e, _⟩ := h (by omega)
      cases e
      rw [Option.map_some, addr_add]
      exact h.dropT k (by rw [List.length_drop]; exact hn)
end

def RowC (w : World) (g cap : Nat) (ns : List Nd) : Prop :=
  ∃ cur : Array Value, w.heap[g]? = some (.cells cur 30 (0, 0)) ∧ cur.size = cap * 4 ∧ ns.length ≤ cap ∧ ∀ i, i < ns.length → HeldN (fun b => ¬ b = g) w (fun j => cur.toList.getD j undef) i (ns.getD i nd0)
section
variable {g cap : Nat} {w w' : World} {ns : List Nd}
theorem RowC.lt (h : RowC w g cap ns) : g < w.heap.size := by obtain ⟨cur, h, _⟩ := h; exact heap_lt h
theorem RowC.grow (h : RowC w g cap ns) (hg : Grow w w') : RowC w' g cap ns := by
  obtain ⟨cur, h1, h2, h3, h4⟩ := h
  exact ⟨cur, (hg.block g (heap_lt h1)).trans h1, h2, h3, fun i hi => (h4 i hi).kept (Kept.of_grow hg) (fun _ _ _ => rfl)⟩
theorem RowC.take (h : RowC w g cap ns) (k : Nat) : RowC w g cap (ns.take k) := by
  obtain ⟨cur, h1, h2, h3, h4⟩ := h
  have hl : (ns.take k).length ≤ ns.length := by simp; omega
  refine ⟨cur, h1, h2, by omega, fun i hi => ?_⟩
  have hik : i < k := by simp at hi; omega
  have e2 : (ns.take k).getD i nd0 = ns.getD i nd0 := by simp [hik]
  rw [e2]
  exact h4 i (by omega)
theorem RowC.nodes (h : RowC w g cap ns) : Nodes w w.heap.size (some ⟨g, 0, none⟩) ns := fun _ => by
  obtain ⟨cur, h1, h2, h3, h4⟩ := h
  refine ⟨g, 0, rfl, heap_lt h1, fun i hi => ?_⟩
  obtain ⟨A1, c1, A2, c2, A3, c3, e0, e1, e2, e3, n1, n2, n3⟩ := h4 i hi
  have cell : ∀ j v, j < cap * 4 → cur.toList.getD j undef = v → w.cell? ⟨g, j, none⟩ = some v := fun j v hj hv => by
    have hj' : j < cur.size := by omega
    rw [cell_of_row w g j cur _ (0, 0) h1, ← hv, ← Array.getElem?_toList]
    simp [List.getD, hj']
  rw [Nat.zero_add]
  exact ⟨A1, c1, A2, c2, A3, c3, cell _ _ (by omega) e0, cell _ _ (by omega) e1, cell _ _ (by omega) e2, cell _ _ (by omega) e3, n1.nums, n2.nums, n3.decs⟩
end
/-- one more node behind them, in the room that is there -/
theorem wp_push {o : Oper} {a : Act} {w : World} {K : Act → World → Prop} {Q : Exit → Act → World → Prop} (s x : Operand)
    (ho : o.op = .call { callee := .builtin .append, args := #[s, x], argTypes := #[22, 22] }) (g cap m : Nat) (ns : List Nd) (n : Nd) (b : Nat) (A1 A2 A3 : Option Addr) (l1 c1 l2 c2 l3 c3 : Nat)
    (hs : a.eval s = .slice (some ⟨g, 0, none⟩) m cap) (hx : a.eval x = .slice (some ⟨b, 0, none⟩) 1 1) (hrow : RowC w g cap ns) (hm : ns.length = m) (hroom : m < cap)
    (hbox : BoxN w b n.kind A1 l1 c1 A2 l2 c2 A3 l3 c3) (hl1 : n.shp.length = l1) (hl2 : n.ints.length = l2) (hl3 : n.decs.length = l3)
    (h1 : NumsT (fun b => ¬ b = g) w A1 n.shp) (h2 : NumsT (fun b => ¬ b = g) w A2 n.ints) (h3 : DecsT (fun b => ¬ b = g) w A3 n.decs)
    (h : ∀ w', RowC w' g cap (ns ++ [n]) → Kept (fun k => k = g) w w' → K (a.put o.dst (.slice (some ⟨g, 0, none⟩) (m + 1) cap)) w') : o.wp Try.prog a w K Q := by
  obtain ⟨i0, hi, hz0, hz1, hz2⟩ := info_of info_node
  obtain ⟨cur, hg, hsz, hlen, hns⟩ := hrow
  subst hm hl1 hl2 hl3
  have hr := run_append_room (P := Try.prog) w 22 o.type 30 i0 Try.underlying22 hi g ns.length cap cur hg ⟨b, 0, none⟩ 1 1
    [.int .i64 n.kind, .slice A1 n.shp.length c1, .slice A2 n.ints.length c2, .slice A3 n.decs.length c3] (by rw [hz1]; rfl) (fun j u hj => by
      rw [addr_add, Nat.zero_add]
      match j, hj with
      | 0, hj => cases hj; exact hbox.at0
      | 1, hj => cases hj; exact hbox.at1
      | 2, hj => cases hj; exact hbox.at2
      | 3, hj => cases hj; exact hbox.at3
      | j + 4, hj => simp at hj) (fun u hu => by
      simp only [List.mem_cons, List.not_mem_nil, or_false] at hu
      rcases hu with rfl | rfl | rfl | rfl <;> rfl) (by omega) (by rw [hz1]; simp only [List.length_cons, List.length_nil]; omega)
  rw [hz1] at hr
  generalize hnew : (cur.toList.take (ns.length * 4) ++ [Value.int .i64 n.kind, .slice A1 n.shp.length c1, .slice A2 n.ints.length c2, .slice A3 n.decs.length c3] ++ cur.toList.drop (ns.length * 4 + [Value.int .i64 n.kind, .slice A1 n.shp.length c1, .slice A2 n.ints.length c2, .slice A3 n.decs.length c3].length)) = new at hr
  have hcl : cur.toList.length = cap * 4 := by rw [Array.length_toList, hsz]
  have htl : (cur.toList.take (ns.length * 4)).length = ns.length * 4 := by rw [List.length_take]; omega
  have hnl : new.length = cap * 4 := by rw [← hnew]; simp only [List.length_append, htl, List.length_cons, List.length_nil, List.length_drop, hcl]; omega
  have hlow : ∀ j, j < ns.length * 4 → new.getD j undef = cur.toList.getD j undef := fun j hj => by
    rw [← hnew]
    simp only [List.getD]
    rw [List.getElem?_append_left (by simp only [List.length_append, htl]; omega), List.getElem?_append_left (by omega), List.getElem?_take, if_pos hj]
  have hmid : ∀ r, r < 4 → new.getD (ns.length * 4 + r) undef = [Value.int .i64 n.kind, .slice A1 n.shp.length c1, .slice A2 n.ints.length c2, .slice A3 n.decs.length c3].getD r undef := fun r hr => by
    rw [← hnew]
    simp only [List.getD]
    rw [List.getElem?_append_left (by simp only [List.length_append, htl, List.length_cons, List.length_nil]; omega), List.getElem?_append_right (by omega), htl, Nat.add_sub_cancel_left]
  have hk : Kept (fun k => k = g) w (w.setRow g new.toArray) := ⟨rfl, rfl, rfl, by simp, fun k _ hk => setRow_other w g k _ hk⟩
  unfold Oper.wp
  simp [execOp, ho, resolve, invoke, builtin, hs, hx, hr, Result.andThen]
  refine h _ ⟨new.toArray, setRow_heap w g cur _ _ _ hg, by simpa using hnl, by rw [List.length_append]; simp only [List.length_singleton]; omega, fun i hi => ?_⟩ hk
  by_cases hik : i < ns.length
  · have e1 : (ns ++ [n]).getD i nd0 = ns.getD i nd0 := by simp [List.getD, List.getElem?_append_left hik]
    rw [e1]
    exact (hns i hik).kept hk (fun j h1 h2 => by rw [List.toList_toArray]; exact hlow j (by omega))
  · have hik' : i = ns.length := by rw [List.length_append] at hi; simp at hi; omega
    subst hik'
    have e1 : (ns ++ [n]).getD ns.length nd0 = n := by simp
    rw [e1]
    exact ⟨A1, c1, A2, c2, A3, c3, by rw [List.toList_toArray]; exact hmid 0 (by decide), by rw [List.toList_toArray]; exact hmid 1 (by decide), by rw [List.toList_toArray]; exact hmid 2 (by decide), by rw [List.toList_toArray]; exact hmid 3 (by decide), h1.kept hk, h2.kept hk, h3.kept hk⟩
end Go.Proofs.Ytcljpcbgokgcdaa
