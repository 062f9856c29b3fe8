/-
  Pieces of a row of nodes; rows of rows. Nothing is claimed here by itself.
-/
import Derived.Test.YtcljpcbgokgcdaaCopies
import Derived.Laws.AppendOwnNone
import Derived.Maps.AppendAt
namespace Go.Proofs.Ytcljpcbgokgcdaa
open Go.RowKit Go.Lib
set_option linter.unusedSimpArgs false
set_option linter.unusedVariables false

theorem add_zero (a : Addr) : a.add 0 = a := by
  obtain ⟨b, o, s⟩ := a
  unfold Addr.add
  split <;> simp_all
def cutA (A : Option Addr) (c k : Nat) : Option Addr := if c = k then A else A.map fun x => x.add (k * 4)
theorem run_cut_lo (A : Option Addr) (n c k : Nat) (hk : k ≤ n) (W : World) :
    (Instr.slice 22 (.slice A n c) (some (.int .i64 ((k : Nat) : Int))) none none).run Try.prog W = .ok (.slice (cutA A c k) (n - k) (c - k)) W := by
  obtain ⟨i, hi, _, hsz, _⟩ := info_of info_node
  have h0 : (0 : Int) ≤ ((k : Nat) : Int) := by omega
  have h1 : ((k : Nat) : Int) ≤ ((n : Nat) : Int) := by omega
  simp [Instr.slice, run_underlying Try.underlying22, Instr.sliceBounds, Instr.sliceBound, asIntOf, sizeOf, typeInfo, hi, hsz, h0, h1, cutA]
  omega
theorem run_cut_hi (A : Option Addr) (n c k : Nat) (hk : k ≤ c) (W : World) :
    (Instr.slice 22 (.slice A n c) none (some (.int .i64 ((k : Nat) : Int))) none).run Try.prog W = .ok (.slice A k c) W := by
  obtain ⟨i, hi, _, hsz, _⟩ := info_of info_node
  have h0 : (0 : Int) ≤ ((k : Nat) : Int) := by omega
  have h1 : ((k : Nat) : Int) ≤ ((c : Nat) : Int) := by omega
  have ha : (Option.map (fun x : Addr => x.add 0) A) = A := by cases A <;> simp [add_zero]
  simp [Instr.slice, run_underlying Try.underlying22, Instr.sliceBounds, Instr.sliceBound, asIntOf, sizeOf, typeInfo, hi, hsz, h0, h1, ha]
  omega
theorem Nodes.cut {w : World} {B : Nat} {A : Option Addr} {ns : List Nd} (h : Nodes w B A ns) (c k : Nat) (hc : ns.length ≤ c) : Nodes w B (cutA A c k) (ns.drop k) := by
  unfold cutA
  split
  · rename_i e
    rw [List.drop_eq_nil_of_le (by omega)]
    exact Nodes.none_
  · cases A with
    | none => rw [h.none_eq]; simp; exact Nodes.none_
    | some a =>
      intro hn
      rw [List.length_drop] at hn
      obtain ⟨b, off, e, _⟩ := h (by omega)
      cases e
      rw [Option.map_some, addr_add]
      exact h.drop k (by rw [List.length_drop]; exact hn)

/-- .. all of which lies in blocks of T -/
def NumsT (T : Nat → Prop) (w : World) (A : Option Addr) (xs : List Int) : Prop :=
  0 < xs.length → ∃ b off, A = some ⟨b, off, none⟩ ∧ T b ∧ ∀ i, i < xs.length → w.cell? ⟨b, off + i, none⟩ = some (.int .i64 (xs.getD i 0))
def DecsT (T : Nat → Prop) (w : World) (A : Option Addr) (ds : List (Int × Int)) : Prop :=
  0 < ds.length → ∃ b off, A = some ⟨b, off, none⟩ ∧ T b ∧ ∀ i, i < ds.length → w.cell? ⟨b, off + i * 2, none⟩ = some (.int .i64 (ds.getD i (0, 0)).1) ∧ w.cell? ⟨b, off + i * 2 + 1, none⟩ = some (.int .i64 (ds.getD i (0, 0)).2)
def NodeT (T : Nat → Prop) (w : World) (b o : Nat) (n : Nd) : Prop :=
  ∃ A1 c1 A2 c2 A3 c3, w.cell? ⟨b, o, none⟩ = some (.int .i64 n.kind) ∧ w.cell? ⟨b, o + 1, none⟩ = some (.slice A1 n.shp.length c1) ∧ w.cell? ⟨b, o + 2, none⟩ = some (.slice A2 n.ints.length c2) ∧
    w.cell? ⟨b, o + 3, none⟩ = some (.slice A3 n.decs.length c3) ∧ NumsT T w A1 n.shp ∧ NumsT T w A2 n.ints ∧ DecsT T w A3 n.decs
def NodesT (T : Nat → Prop) (w : World) (A : Option Addr) (ns : List Nd) : Prop :=
  0 < ns.length → ∃ b off, A = some ⟨b, off, none⟩ ∧ T b ∧ ∀ i, i < ns.length → NodeT T w b (off + i * 4) (ns.getD i nd0)
section
variable {T T' : Nat → Prop} {w w' : World} {A : Option Addr}
theorem cell_keep {b : Nat} (h : w'.heap[b]? = w.heap[b]?) (o : Nat) : w'.cell? ⟨b, o, none⟩ = w.cell? ⟨b, o, none⟩ := World.cell?_of_block (w := w) (a := ⟨b, o, none⟩) h
theorem NumsT.keep {xs : List Int} (h : NumsT T w A xs) (hk : ∀ b, T b → T' b ∧ w'.heap[b]? = w.heap[b]?) : NumsT T' w' A xs := fun hn => by
  obtain ⟨b, off, e, hT, hc⟩ := h hn
  exact ⟨b, off, e, (hk b hT).1, fun i hi => (cell_keep (hk b hT).2 _).trans (hc i hi)⟩
theorem DecsT.keep {ds : List (Int × Int)} (h : DecsT T w A ds) (hk : ∀ b, T b → T' b ∧ w'.heap[b]? = w.heap[b]?) : DecsT T' w' A ds := fun hn => by
  obtain ⟨b, off, e, hT, hc⟩ := h hn
  exact ⟨b, off, e, (hk b hT).1, fun i hi => ⟨(cell_keep (hk b hT).2 _).trans (hc i hi).1, (cell_keep (hk b hT).2 _).trans (hc i hi).2⟩⟩
theorem NodesT.keep {ns : List Nd} (h : NodesT T w A ns) (hk : ∀ b, T b → T' b ∧ w'.heap[b]? = w.heap[b]?) : NodesT T' w' A ns := fun hn => by
  obtain ⟨b, off, e, hT, hc⟩ := h hn
  refine ⟨b, off, e, (hk b hT).1, fun i hi => ?_⟩
  obtain ⟨A1, c1, A2, c2, A3, c3, h0, h1, h2, h3, n1, n2, n3⟩ := hc i hi
  have hc := cell_keep (hk b hT).2
  exact ⟨A1, c1, A2, c2, A3, c3, (hc _).trans h0, (hc _).trans h1, (hc _).trans h2, (hc _).trans h3, n1.keep hk, n2.keep hk, n3.keep hk⟩
theorem NumsT.nums {xs : List Int} (h : NumsT T w A xs) : Nums .i64 w w.heap.size A xs := fun hn => by
  obtain ⟨b, off, e, hT, hc⟩ := h hn
  exact ⟨b, off, e, block_lt_of_cell (hc 0 hn), hc⟩
theorem DecsT.decs {ds : List (Int × Int)} (h : DecsT T w A ds) : Decs w w.heap.size A ds := fun hn => by
  obtain ⟨b, off, e, hT, hc⟩ := h hn
  exact ⟨b, off, e, block_lt_of_cell (hc 0 hn).1, hc⟩
theorem NodesT.nodes {ns : List Nd} (h : NodesT T w A ns) : Nodes w w.heap.size A ns := fun hn => by
  obtain ⟨b, off, e, hT, hc⟩ := h hn
  refine ⟨b, off, e, ?_, fun i hi => ?_⟩
  · obtain ⟨A1, c1, A2, c2, A3, c3, h0, _⟩ := hc 0 hn
    exact block_lt_of_cell h0
  · obtain ⟨A1, c1, A2, c2, A3, c3, h0, h1, h2, h3, n1, n2, n3⟩ := hc i hi
    exact ⟨A1, c1, A2, c2, A3, c3, h0, h1, h2, h3, n1.nums, n2.nums, n3.decs⟩
end
theorem Nodes.nodesT {w : World} {B : Nat} {A : Option Addr} {ns : List Nd} (h : Nodes w B A ns) : NodesT (fun b => b < B) w A ns := fun hn => by
  obtain ⟨b, off, e, hB, hc⟩ := h hn
  refine ⟨b, off, e, hB, fun i hi => ?_⟩
  obtain ⟨A1, c1, A2, c2, A3, c3, h0, h1, h2, h3, n1, n2, n3⟩ := hc i hi
  exact ⟨A1, c1, A2, c2, A3, c3, h0, h1, h2, h3, n1, n2, n3⟩
theorem Copied.nodesT {w : World} {g : Nat} {ns : List Nd} (h : Copied w g ns) : NodesT (fun b => g ≤ b ∧ b < w.heap.size) w (some ⟨g, 0, none⟩) ns := fun _ => by
  obtain ⟨f, hr, ho⟩ := h
  refine ⟨g, 0, rfl, ⟨Nat.le_refl _, hr.lt⟩, fun i hi => ?_⟩
  obtain ⟨b1, b2, b3, g1, g2, g3, h0, h1, h2, h3, r1, r2, r3⟩ := ho i hi
  refine ⟨some ⟨b1, 0, none⟩, (ns.getD i nd0).shp.length, some ⟨b2, 0, none⟩, (ns.getD i nd0).ints.length, some ⟨b3, 0, none⟩, (ns.getD i nd0).decs.length, ?_, ?_, ?_, ?_, ?_, ?_, ?_⟩
  · rw [Nat.zero_add, hr.cell (by omega), h0]
  · rw [Nat.zero_add, hr.cell (by omega), h1]
  · rw [Nat.zero_add, hr.cell (by omega), h2]
  · rw [Nat.zero_add, hr.cell (by omega), h3]
  · intro hp
    obtain ⟨b, off, e, hb, hc⟩ := nums_cells r1 hp
    cases e
    exact ⟨b1, 0, rfl, ⟨Nat.le_of_lt g1, heap_lt r1⟩, hc⟩
  · intro hp
    obtain ⟨b, off, e, hb, hc⟩ := nums_cells r2 hp
    cases e
    exact ⟨b2, 0, rfl, ⟨Nat.le_of_lt g2, heap_lt r2⟩, hc⟩
  · intro hp
    obtain ⟨b, off, e, hb, hc⟩ := decs_cells r3 hp
    cases e
    exact ⟨b3, 0, rfl, ⟨Nat.le_of_lt g3, heap_lt r3⟩, hc⟩

/-- the slice at address A holds slices, and these the rows ks -/
def KidsAt (w : World) (B : Nat) (A : Option Addr) (ks : List (List Nd)) : Prop :=
  0 < ks.length → ∃ b off, A = some ⟨b, off, none⟩ ∧ b < B ∧ ∀ i, i < ks.length → ∃ A' c', w.cell? ⟨b, off + i, none⟩ = some (.slice A' (ks.getD i []).length c') ∧ (ks.getD i []).length ≤ c' ∧ Nodes w B A' (ks.getD i [])
theorem KidsAt.none_ {w : World} {B : Nat} {A : Option Addr} : KidsAt w B A [] := fun h => absurd h (by simp)
theorem KidsAt.grow {w w' : World} {A : Option Addr} {ks : List (List Nd)} (h : KidsAt w w.heap.size A ks) (hg : Grow w w') : KidsAt w' w'.heap.size A ks := fun hn => by
  obtain ⟨b, off, e, hb, hc⟩ := h hn
  refine ⟨b, off, e, Nat.lt_of_lt_of_le hb hg.size, fun i hi => ?_⟩
  obtain ⟨A', c', h1, h2, h3⟩ := hc i hi
  exact ⟨A', c', (hg.cell (p := ⟨b, off + i, none⟩) hb).trans h1, h2, h3.grow hg⟩
/-- rows in a row of one's own -/
def OwnK (B : Nat) (v : Value) (ks : List (List Nd)) (w : World) : Prop :=
  ∃ vals, w.ownsRow B 22 1 v ks.length vals ∧ ∀ i, i < ks.length → ∃ A' c', vals[i]? = some (.slice A' (ks.getD i []).length c') ∧ (ks.getD i []).length ≤ c' ∧ NodesT (fun b => B ≤ b ∧ v.ownBlock ≠ some b ∧ b < w.heap.size) w A' (ks.getD i [])
theorem ownK_nil (B : Nat) (w : World) : OwnK B (.slice none 0 0) [] w := ⟨[], World.ownsRow_nil _ _ _ _, fun i hi => absurd hi (by simp)⟩
theorem OwnK.grow {B : Nat} {v : Value} {ks : List (List Nd)} {w w' : World} (h : OwnK B v ks w) (hg : Grow w w') : OwnK B v ks w' := by
  obtain ⟨vals, ho, hk⟩ := h
  refine ⟨vals, ⟨ho.1, ?_⟩, fun i hi => ?_⟩
  · rcases ho.2 with h0 | ⟨g', cap', cur, hv, hbg, hgg, rest⟩
    · exact .inl h0
    · exact .inr ⟨g', cap', cur, hv, hbg, (hg.block g' (heap_lt hgg)).trans hgg, rest⟩
  · obtain ⟨A', c', h1, h2, h3⟩ := hk i hi
    exact ⟨A', c', h1, h2, h3.keep fun b hb => ⟨⟨hb.1, hb.2.1, Nat.lt_of_lt_of_le hb.2.2 hg.size⟩, hg.block b hb.2.2⟩⟩
theorem OwnK.kids {B : Nat} {v : Value} {ks : List (List Nd)} {w : World} (h : OwnK B v ks w) : ∃ A c, v = .slice A ks.length c ∧ (A = none → c = 0) ∧ ks.length ≤ c ∧ KidsAt w w.heap.size A ks := by
  obtain ⟨vals, ho, hk⟩ := h
  rcases ho.2 with ⟨rfl, hx⟩ | ⟨g, cap, cur, rfl, hbg, hgg, hnc, _, hsz, htake⟩
  · have : ks = [] := List.eq_nil_of_length_eq_zero hx
    subst this
    exact ⟨none, 0, rfl, fun _ => rfl, Nat.le_refl _, KidsAt.none_⟩
  · refine ⟨some ⟨g, 0, none⟩, cap, rfl, by simp, hnc, fun hp => ⟨g, 0, rfl, heap_lt hgg, fun i hi => ?_⟩⟩
    obtain ⟨A', c', h1, h2, h3⟩ := hk i hi
    refine ⟨A', c', ?_, h2, h3.nodes⟩
    rw [Nat.zero_add, cell_of_row w g i cur _ (0, 0) hgg, ← h1, ← htake, List.getElem?_take, if_pos (by omega), Array.getElem?_toList]
/-- one more, of new memory, behind them -/
theorem wpList_append_kid {ops : Array Oper} {rest : List Oper} {o : Oper} {a : Act} {w : World} {Q : Exit → Act → World → Prop} (hgd : o.guard = none) (s x : Operand)
    (ho : o.op = .call { callee := .builtin .append, args := #[s, x], argTypes := #[38, 38] }) (base : Nat) (v : Value) (ks : List (List Nd)) (kid : List Nd) (g : Nat) (A' : Option Addr) (c' : Nat)
    (hs : a.eval s = v) (hown : OwnK base v ks w) (hx : a.eval x = .slice (some ⟨g, 0, none⟩) 1 1) (hcell : w.cell? ⟨g, 0, none⟩ = some (.slice A' kid.length c')) (hkc : kid.length ≤ c')
    (hkid : NodesT (fun b => base ≤ b ∧ v.ownBlock ≠ some b ∧ b < w.heap.size) w A' kid) (hb : ks.length ≤ 1100000) (hbase : base ≤ w.heap.size)
    (h : ∀ v' w', Hid (OwnK base v' (ks ++ [kid]) w') → Hid (Below base w w') → wpList Try.prog ops Q rest (a.put o.dst v') w') : wpList Try.prog ops Q (o :: rest) a w := by
  obtain ⟨i0, hi, hz0, hz1, hz2⟩ := info_of info_row
  obtain ⟨vals, hv, hk⟩ := hown
  refine wpList_append_own_at w hgd s x 38 ho base 22 i0 (.slice none 0 0) 1 24 Try.underlying38 hi hz0 hz1 hz2 rfl (by decide) v ks.length vals hs hv ⟨g, 0, none⟩ 1 1 [.slice A' kid.length c'] hx rfl ?_ ?_ (by unfold maxLen; omega) (by omega) hbase ?_
  · intro j u hj
    match j, hj with
    | 0, hj => cases hj; rw [addr_add]; exact hcell
    | j + 1, hj => simp at hj
  · intro u hu
    rw [List.mem_singleton.1 hu]
    rfl
  · intro v' w' hown' hgrow _ hat
    refine h v' w' (Lib.hid ⟨vals ++ [.slice A' kid.length c'], by rw [List.length_append]; exact hown', fun i hi => ?_⟩) (Lib.hid (Below.grown (Below.refl _ _) hgrow hbase (fun g hg => (hv.lt g hg).1)))
    have hkeep : ∀ b, (base ≤ b ∧ v.ownBlock ≠ some b ∧ b < w.heap.size) → (base ≤ b ∧ v'.ownBlock ≠ some b ∧ b < w'.heap.size) ∧ w'.heap[b]? = w.heap[b]? := fun b hb => by
      refine ⟨⟨hb.1, ?_, Nat.lt_of_lt_of_le hb.2.2 hgrow.size⟩, hgrow.block b hb.2.2 (fun e => hb.2.1 e.symm)⟩
      intro e
      rcases hat with h | h
      · exact hb.2.1 (h.symm.trans e)
      · rw [h] at e; cases e; omega
    have hvl : vals.length = ks.length := by have := hv.1; omega
    by_cases hik : i < ks.length
    · obtain ⟨A1, c1, h1, h2, h3⟩ := hk i hik
      have e1 : (ks ++ [kid]).getD i [] = ks.getD i [] := by simp [List.getD, List.getElem?_append_left hik]
      rw [e1]
      exact ⟨A1, c1, by rw [List.getElem?_append_left (by omega)]; exact h1, h2, h3.keep hkeep⟩
    · have hik' : i = ks.length := by rw [List.length_append] at hi; simp at hi; omega
      subst hik'
      have e1 : (ks ++ [kid]).getD ks.length [] = kid := by simp
      rw [e1]
      exact ⟨A', c', by rw [List.getElem?_append_right (by omega), hvl]; simp, hkc, hkid.keep hkeep⟩
end Go.Proofs.Ytcljpcbgokgcdaa
