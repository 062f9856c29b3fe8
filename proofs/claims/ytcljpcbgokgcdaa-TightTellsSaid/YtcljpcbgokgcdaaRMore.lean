/-
  Nodes in newer memory, behind a row of one's own. Nothing is claimed here by itself.
-/
import Derived.Test.YtcljpcbgokgcdaaLooks
namespace Go.Proofs.Ytcljpcbgokgcdaa
open Go.RowKit Go.Lib
set_option linter.unusedSimpArgs false
set_option linter.unusedVariables false

theorem rawT_of {T : Nat → Prop} {w : World} {A : Option Addr} {ns : List Nd} (h : NodesT T w A ns) : ∃ vs, vs.length = ns.length * 4 ∧ (∀ i, i < ns.length → HeldN T w (fun j => vs.getD j undef) i (ns.getD i nd0)) ∧ Ones vs ∧ Src w A vs := by
  obtain ⟨vs, hl, h1, hs, hc⟩ := src_nodes h.nodes
  refine ⟨vs, hl, fun i hi => ?_, h1, hs⟩
  obtain ⟨b, off, rfl, hb, hat⟩ := h (by omega)
  obtain ⟨A1, c1, A2, c2, A3, c3, p0, p1, p2, p3, n1, n2, n3⟩ := hat i hi
  have cell : ∀ j v, j < ns.length * 4 → w.cell? ⟨b, off + j, none⟩ = some v → vs.getD j undef = v := fun j v hj hv => by
    obtain ⟨u, hu, hcu⟩ := hc b off rfl j hj
    rw [hcu] at hv
    cases hv
    simp [List.getD, hu]
  exact ⟨A1, c1, A2, c2, A3, c3, cell _ _ (by omega) p0, cell _ _ (by omega) (by rw [← Nat.add_assoc]; exact p1), cell _ _ (by omega) (by rw [← Nat.add_assoc]; exact p2), cell _ _ (by omega) (by rw [← Nat.add_assoc]; exact p3), n1, n2, n3⟩
/-- nodes in a row of one's own, all else in new memory too, and in no block of X -/
def OwnRX (X : Nat → Prop) (B : Nat) (v : Value) (ns : List Nd) (w : World) : Prop :=
  B ≤ w.heap.size ∧ ∃ vals, w.ownsRow B 30 4 v ns.length vals ∧ ∀ i, i < ns.length → HeldN (fun b => B ≤ b ∧ v.ownBlock ≠ some b ∧ b < w.heap.size ∧ ¬ X b) w (fun j => vals.getD j undef) i (ns.getD i nd0)
theorem OwnRX.nodes {X : Nat → Prop} {B : Nat} {v : Value} {ns : List Nd} {w : World} (h : OwnRX X B v ns w) : ∃ A c, v = .slice A ns.length c ∧ ns.length ≤ c ∧ NodesT (fun b => B ≤ b ∧ b < w.heap.size) w A ns := by
  obtain ⟨hB, vals, ho, hn⟩ := h
  exact OwnRN.nodes ⟨hB, vals, ho, fun i hi => (hn i hi).keep (fun b hb => ⟨⟨hb.1, hb.2.1, hb.2.2.1⟩, rfl⟩) (fun _ _ _ => rfl)⟩
theorem OwnRX.lt {X : Nat → Prop} {B : Nat} {v : Value} {ns : List Nd} {w : World} (h : OwnRX X B v ns w) {q : Nat} (hq : v.ownBlock = some q) : B ≤ q ∧ q < w.heap.size := by
  obtain ⟨hB, vals, ho, hn⟩ := h
  exact ho.lt q hq
theorem own_keep1 {w w' : World} {B size n : Nat} {e : TypeId} {v : Value} {xs : List Value} (h : w.ownsRow B e size v n xs) (hk : ∀ b, v.ownBlock = some b → b < w.heap.size → w'.heap[b]? = w.heap[b]?) : w'.ownsRow B e size v n xs := by
  refine ⟨h.1, ?_⟩
  rcases h.2 with h | ⟨g, cap, cur, e1, hb, hg, rest⟩
  · exact .inl h
  · exact .inr ⟨g, cap, cur, e1, hb, (hk g (by rw [e1]; rfl) (heap_lt hg)).trans hg, rest⟩
/-- three rows of one's own in unlike blocks: nodes, whole numbers, exact ones -/
def Trio (B : Nat) (v7 v8 v9 : Value) (ns : List Nd) (xs : List Int) (ds : List (Int × Int)) (w : World) : Prop :=
  OwnRX (fun b => v8.ownBlock = some b ∨ v9.ownBlock = some b) B v7 ns w ∧ OwnI B v8 xs w ∧ OwnD B v9 ds w ∧ (∀ q, v7.ownBlock = some q → v8.ownBlock ≠ some q ∧ v9.ownBlock ≠ some q) ∧ ∀ q, v8.ownBlock = some q → v9.ownBlock ≠ some q
theorem Trio.grow {B : Nat} {v7 v8 v9 : Value} {ns : List Nd} {xs : List Int} {ds : List (Int × Int)} {w w' : World} (h : Trio B v7 v8 v9 ns xs ds w) (hg : Grow w w') : Trio B v7 v8 v9 ns xs ds w' := by
  obtain ⟨⟨hB, vals, ho, hn⟩, h8, h9, hu⟩ := h
  exact ⟨⟨Nat.le_trans hB hg.size, vals, ownsRow_grow ho hg, fun i hi => (hn i hi).keep (fun b hb => ⟨⟨hb.1, hb.2.1, Nat.lt_of_lt_of_le hb.2.2.1 hg.size, hb.2.2.2⟩, hg.block b hb.2.2.1⟩) (fun _ _ _ => rfl)⟩, h8.grow hg, h9.grow hg, hu⟩
theorem Trio.size {B : Nat} {v7 v8 v9 : Value} {ns : List Nd} {xs : List Int} {ds : List (Int × Int)} {w : World} (h : Trio B v7 v8 v9 ns xs ds w) : B ≤ w.heap.size := h.1.1
theorem Trio.put7 {B : Nat} {v7 v8 v9 v' : Value} {ns ns' : List Nd} {xs : List Int} {ds : List (Int × Int)} {w w' : World} (h : Trio B v7 v8 v9 ns xs ds w) (h' : OwnRX (fun b => v8.ownBlock = some b ∨ v9.ownBlock = some b) B v' ns' w') (ha : Apart v7 v' w w') : Trio B v' v8 v9 ns' xs ds w' := by
  obtain ⟨h7, h8, h9, hu, hv⟩ := h
  have l8 := fun q hq => (World.ownsRow.lt h8 q hq).2
  have l9 := fun q hq => (World.ownsRow.lt h9 q hq).2
  refine ⟨h', own_keep1 h8 fun b hb hl => ha.1 b hl fun e => (hu b e).1 hb, own_keep1 h9 fun b hb hl => ha.1 b hl fun e => (hu b e).2 hb, fun q hq => ?_, hv⟩
  rcases ha.2 with e | e
  · exact hu q (e ▸ hq)
  · have e' : w.heap.size = q := Option.some.inj (e ▸ hq)
    exact ⟨fun k => by have := l8 q k; omega, fun k => by have := l9 q k; omega⟩
theorem Trio.put8 {B : Nat} {v7 v8 v9 v' : Value} {ns : List Nd} {xs xs' : List Int} {ds : List (Int × Int)} {w w' : World} (h : Trio B v7 v8 v9 ns xs ds w) (h' : OwnI B v' xs' w') (hb : Below B w w') (ha : Apart v8 v' w w') : Trio B v7 v' v9 ns xs' ds w' := by
  obtain ⟨⟨hB, vals, ho, hn⟩, h8, h9, hu, hv⟩ := h
  have l7 := fun q hq => (World.ownsRow.lt ho q hq).2
  have l9 := fun q hq => (World.ownsRow.lt h9 q hq).2
  refine ⟨⟨Nat.le_trans hB hb.size, vals, own_keep1 ho fun b hb hl => ha.1 b hl fun e => (hu b hb).1 e, fun i hi => (hn i hi).keep (fun b hb' => ⟨⟨hb'.1, hb'.2.1, Nat.lt_of_lt_of_le hb'.2.2.1 hb.size, fun k => ?_⟩, ha.1 b hb'.2.2.1 fun e => hb'.2.2.2 (.inl e)⟩) (fun _ _ _ => rfl)⟩, h', own_keep1 h9 fun b hb hl => ha.1 b hl fun e => hv b e hb, fun q hq => ⟨fun k => ?_, (hu q hq).2⟩, fun q hq => ?_⟩
  · rcases k with k | k
    · rcases ha.2 with e | e
      · exact hb'.2.2.2 (.inl (e ▸ k))
      · have e' : w.heap.size = b := Option.some.inj (e ▸ k)
        have := hb'.2.2.1
        omega
    · exact hb'.2.2.2 (.inr k)
  · rcases ha.2 with e | e
    · exact (hu q hq).1 (e ▸ k)
    · have e' : w.heap.size = q := Option.some.inj (e ▸ k)
      have := l7 q hq
      omega
  · rcases ha.2 with e | e
    · exact hv q (e ▸ hq)
    · have e' : w.heap.size = q := Option.some.inj (e ▸ hq)
      exact fun k => by have := l9 q k; omega
theorem Trio.put9 {B : Nat} {v7 v8 v9 v' : Value} {ns : List Nd} {xs : List Int} {ds ds' : List (Int × Int)} {w w' : World} (h : Trio B v7 v8 v9 ns xs ds w) (h' : OwnD B v' ds' w') (hb : Below B w w') (ha : Apart v9 v' w w') : Trio B v7 v8 v' ns xs ds' w' := by
  obtain ⟨⟨hB, vals, ho, hn⟩, h8, h9, hu, hv⟩ := h
  have l7 := fun q hq => (World.ownsRow.lt ho q hq).2
  have l8 := fun q hq => (World.ownsRow.lt h8 q hq).2
  refine ⟨⟨Nat.le_trans hB hb.size, vals, own_keep1 ho fun b hb hl => ha.1 b hl fun e => (hu b hb).2 e, fun i hi => (hn i hi).keep (fun b hb' => ⟨⟨hb'.1, hb'.2.1, Nat.lt_of_lt_of_le hb'.2.2.1 hb.size, fun k => ?_⟩, ha.1 b hb'.2.2.1 fun e => hb'.2.2.2 (.inr e)⟩) (fun _ _ _ => rfl)⟩, own_keep1 h8 fun b hb hl => ha.1 b hl fun e => hv b hb e, h', fun q hq => ⟨(hu q hq).1, fun k => ?_⟩, fun q hq k => ?_⟩
  · rcases k with k | k
    · exact hb'.2.2.2 (.inl k)
    · rcases ha.2 with e | e
      · exact hb'.2.2.2 (.inr (e ▸ k))
      · have e' : w.heap.size = b := Option.some.inj (e ▸ k)
        have := hb'.2.2.1
        omega
  · rcases ha.2 with e | e
    · exact (hu q hq).2 (e ▸ k)
    · have e' : w.heap.size = q := Option.some.inj (e ▸ k)
      have := l7 q hq
      omega
  · rcases ha.2 with e | e
    · exact hv q hq (e ▸ k)
    · have e' : w.heap.size = q := Option.some.inj (e ▸ k)
      have := l8 q hq
      omega
/-- any nodes in newer memory behind them -/
theorem wp_more_nodes {o : Oper} {a : Act} {w : World} {K : Act → World → Prop} {Q : Exit → Act → World → Prop} (s x : Operand)
    (ho : o.op = .call { callee := .builtin .append, args := #[s, x], argTypes := #[22, 22] }) (X : Nat → Prop) (B B0 : Nat) (v : Value) (ns ms : List Nd) (A : Option Addr) (m c : Nat)
    (hs : a.eval s = v) (hown : OwnRX X B v ns w) (hx : a.eval x = .slice A m c) (hm : ms.length = m)
    (hms : NodesT (fun b => B0 ≤ b ∧ b < w.heap.size) w A ms) (hB : B ≤ B0) (hv0 : ∀ k, v.ownBlock = some k → k < B0) (hX : ∀ b, B0 ≤ b → ¬ X b) (hb : ns.length + m ≤ 1000000000)
    (h : ∀ v' w', Hid (OwnRX X B v' (ns ++ ms) w') → Hid (Below B w w') → Hid (Apart v v' w w') → K (a.put o.dst v') w') : o.wp Try.prog a w K Q := by
  obtain ⟨i0, hi, hz0, hz1, hz2⟩ := info_of info_node
  obtain ⟨hBw, vals, hown, hns⟩ := hown
  obtain ⟨us, hul, hus, hu1, husrc⟩ := rawT_of hms
  subst hm
  obtain ⟨v', w', hr, hown', hbel, hap⟩ := run_append_any w B 22 o.type 30 i0 _ 4 80 Try.underlying22 hi hz0 hz1 hz2 rfl (by decide) v ns.length vals hown A ms.length c us hul husrc hu1 (by omega) hb hBw
  unfold Oper.wp
  simp [execOp, ho, resolve, invoke, builtin, hs, hx, hr, Result.andThen]
  refine h v' w' (Lib.hid ⟨Nat.le_trans hBw hbel.size, vals ++ us, by rw [List.length_append]; exact hown', fun i hi => ?_⟩) (Lib.hid hbel) (Lib.hid hap)
  have hkeep : ∀ b, (B ≤ b ∧ v.ownBlock ≠ some b ∧ b < w.heap.size ∧ ¬ X b) → (B ≤ b ∧ v'.ownBlock ≠ some b ∧ b < w'.heap.size ∧ ¬ X b) ∧ w'.heap[b]? = w.heap[b]? := fun b hb => by
    refine ⟨⟨hb.1, ?_, Nat.lt_of_lt_of_le hb.2.2.1 hbel.size, hb.2.2.2⟩, hap.1 b hb.2.2.1 hb.2.1⟩
    intro e
    rcases hap.2 with h | h
    · exact hb.2.1 (h.symm.trans e)
    · rw [h] at e; cases e; omega
  have hnew : ∀ b, (B0 ≤ b ∧ b < w.heap.size) → (B ≤ b ∧ v'.ownBlock ≠ some b ∧ b < w'.heap.size ∧ ¬ X b) ∧ w'.heap[b]? = w.heap[b]? := fun b hb => hkeep b ⟨by omega, fun e => by have := hv0 b e; omega, hb.2, hX b hb.1⟩
  have hvl : vals.length = ns.length * 4 := hown.1
  by_cases hik : i < ns.length
  · have e1 : (ns ++ ms).getD i nd0 = ns.getD i nd0 := by simp [List.getD, List.getElem?_append_left hik]
    rw [e1]
    exact (hns i hik).keep hkeep (fun j h1 h2 => by simp only [List.getD]; rw [List.getElem?_append_left (by omega)])
  · rw [List.length_append] at hi
    obtain ⟨q, rfl⟩ : ∃ q, i = ns.length + q := ⟨i - ns.length, by omega⟩
    have e1 : (ns ++ ms).getD (ns.length + q) nd0 = ms.getD q nd0 := by simp [List.getD, List.getElem?_append_right]
    rw [e1]
    obtain ⟨A1, c1, A2, c2, A3, c3, p0, p1, p2, p3, n1, n2, n3⟩ := hus q (by omega)
    have e2 : ∀ r, (vals ++ us).getD ((ns.length + q) * 4 + r) undef = us.getD (q * 4 + r) undef := fun r => by
      simp only [List.getD]
      rw [List.getElem?_append_right (by omega), hvl]
      congr 2
      omega
    exact ⟨A1, c1, A2, c2, A3, c3, (e2 0).trans p0, (e2 1).trans p1, (e2 2).trans p2, (e2 3).trans p3, n1.keep hnew, n2.keep hnew, n3.keep hnew⟩
theorem wpList_more_nodes {ops : Array Oper} {rest : List Oper} {o : Oper} {a : Act} {w : World} {Q : Exit → Act → World → Prop} (hgd : o.guard = none) (s x : Operand)
    (ho : o.op = .call { callee := .builtin .append, args := #[s, x], argTypes := #[22, 22] }) (X : Nat → Prop) (B B0 : Nat) (v : Value) (ns ms : List Nd) (A : Option Addr) (m c : Nat)
    (hs : a.eval s = v) (hown : OwnRX X B v ns w) (hx : a.eval x = .slice A m c) (hm : ms.length = m)
    (hms : NodesT (fun b => B0 ≤ b ∧ b < w.heap.size) w A ms) (hB : B ≤ B0) (hv0 : ∀ k, v.ownBlock = some k → k < B0) (hX : ∀ b, B0 ≤ b → ¬ X b) (hb : ns.length + m ≤ 1000000000)
    (h : ∀ v' w', Hid (OwnRX X B v' (ns ++ ms) w') → Hid (Below B w w') → Hid (Apart v v' w w') → wpList Try.prog ops Q rest (a.put o.dst v') w') : wpList Try.prog ops Q (o :: rest) a w :=
  wpList_plain hgd fun K hK => wp_more_nodes s x ho X B B0 v ns ms A m c hs hown hx hm hms hB hv0 hX hb fun v' w' h1 h2 h3 => hK _ _ (h v' w' h1 h2 h3)
end Go.Proofs.Ytcljpcbgokgcdaa
