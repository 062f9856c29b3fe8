/-
  Nodes in memory. Nothing is claimed here by itself.
-/
import Derived.Test.YtcljpcbgokgcdaaBase
import Derived.Test.YtcljpcbgokgcdaaBox
namespace Go.Proofs.Ytcljpcbgokgcdaa
open Go.RowKit Go.Lib
set_option linter.unusedVariables false
set_option linter.unusedSimpArgs false

/-- the slice at address A holds the exact numbers ds; it lies below block B -/
def Decs (w : World) (B : Nat) (A : Option Addr) (ds : List (Int × Int)) : Prop :=
  0 < ds.length → ∃ b off, A = some ⟨b, off, none⟩ ∧ b < B ∧ ∀ i, i < ds.length → w.cell? ⟨b, off + i * 2, none⟩ = some (.int .i64 (ds.getD i (0, 0)).1) ∧ w.cell? ⟨b, off + i * 2 + 1, none⟩ = some (.int .i64 (ds.getD i (0, 0)).2)
section
variable {w w' : World} {B B' : Nat} {A : Option Addr} {ds : List (Int × Int)}
theorem Decs.keep (h : Decs w B A ds) (hk : ∀ p : Addr, p.block < B → w'.cell? p = w.cell? p) : Decs w' B A ds := fun hn => by
  obtain ⟨b, off, e, hb, hc⟩ := h hn
  exact ⟨b, off, e, hb, fun i hi => ⟨(hk _ hb).trans (hc i hi).1, (hk _ hb).trans (hc i hi).2⟩⟩
theorem Decs.more (h : Decs w B A ds) (hB : B ≤ B') : Decs w B' A ds := fun hn => by
  obtain ⟨b, off, e, hb, hc⟩ := h hn
  exact ⟨b, off, e, by omega, hc⟩
theorem Decs.below (h : Decs w B A ds) (hb : Below B w w') : Decs w' B A ds := h.keep fun _ hp => hb.cell hp
theorem Decs.none_ : Decs w B A [] := fun h => absurd h (by simp)
theorem Decs.grow (h : Decs w w.heap.size A ds) (hg : Grow w w') : Decs w' w'.heap.size A ds := (h.below hg).more hg.size
end

/-- what a node's three slices hold -/
def IsNd (w : World) (B : Nat) (A1 A2 A3 : Option Addr) (n : Nd) : Prop := Nums .i64 w B A1 n.shp ∧ Nums .i64 w B A2 n.ints ∧ Decs w B A3 n.decs
section
variable {w w' : World} {B B' : Nat} {A1 A2 A3 : Option Addr} {n : Nd}
theorem IsNd.below (h : IsNd w B A1 A2 A3 n) (hb : Below B w w') : IsNd w' B A1 A2 A3 n := ⟨h.1.below hb, h.2.1.below hb, h.2.2.below hb⟩
theorem IsNd.more (h : IsNd w B A1 A2 A3 n) (hB : B ≤ B') : IsNd w B' A1 A2 A3 n := ⟨h.1.more hB, h.2.1.more hB, h.2.2.more hB⟩
theorem IsNd.grow (h : IsNd w w.heap.size A1 A2 A3 n) (hg : Grow w w') : IsNd w' w'.heap.size A1 A2 A3 n := (h.below hg).more hg.size
end
/-- a node stands at a place -/
def NodeAt (w : World) (B b o : Nat) (n : Nd) : Prop :=
  ∃ A1 c1 A2 c2 A3 c3, w.cell? ⟨b, o, none⟩ = some (.int .i64 n.kind) ∧ w.cell? ⟨b, o + 1, none⟩ = some (.slice A1 n.shp.length c1) ∧ w.cell? ⟨b, o + 2, none⟩ = some (.slice A2 n.ints.length c2) ∧
    w.cell? ⟨b, o + 3, none⟩ = some (.slice A3 n.decs.length c3) ∧ IsNd w B A1 A2 A3 n
theorem NodeAt.below {w w' : World} {B b o : Nat} {n : Nd} (h : NodeAt w B b o n) (hB : b < B) (hb : Below B w w') : NodeAt w' B b o n := by
  obtain ⟨A1, c1, A2, c2, A3, c3, h0, h1, h2, h3, hn⟩ := h
  have hk : ∀ p : Addr, p.block < B → w'.cell? p = w.cell? p := fun _ hp => hb.cell hp
  exact ⟨A1, c1, A2, c2, A3, c3, (hk _ hB).trans h0, (hk _ hB).trans h1, (hk _ hB).trans h2, (hk _ hB).trans h3, hn.below hb⟩
theorem NodeAt.more {w : World} {B B' b o : Nat} {n : Nd} (h : NodeAt w B b o n) (hB : B ≤ B') : NodeAt w B' b o n := by
  obtain ⟨A1, c1, A2, c2, A3, c3, h0, h1, h2, h3, hn⟩ := h
  exact ⟨A1, c1, A2, c2, A3, c3, h0, h1, h2, h3, hn.more hB⟩
/-- the slice at address A holds the nodes ns; all of it lies below block B -/
def Nodes (w : World) (B : Nat) (A : Option Addr) (ns : List Nd) : Prop :=
  0 < ns.length → ∃ b off, A = some ⟨b, off, none⟩ ∧ b < B ∧ ∀ i, i < ns.length → NodeAt w B b (off + i * 4) (ns.getD i nd0)
section
variable {w w' : World} {B B' : Nat} {A : Option Addr} {ns : List Nd}
theorem Nodes.below (h : Nodes w B A ns) (hb : Below B w w') : Nodes w' B A ns := fun hn => by
  obtain ⟨b, off, e, hB, hc⟩ := h hn
  exact ⟨b, off, e, hB, fun i hi => (hc i hi).below hB hb⟩
theorem Nodes.more (h : Nodes w B A ns) (hB : B ≤ B') : Nodes w B' A ns := fun hn => by
  obtain ⟨b, off, e, hb, hc⟩ := h hn
  exact ⟨b, off, e, by omega, fun i hi => (hc i hi).more hB⟩
theorem Nodes.none_ : Nodes w B A [] := fun h => absurd h (by simp)
theorem Nodes.grow (h : Nodes w w.heap.size A ns) (hg : Grow w w') : Nodes w' w'.heap.size A ns := (h.below hg).more hg.size
theorem Nodes.take (h : Nodes w B A ns) (k : Nat) : Nodes w B A (ns.take k) := fun hn => by
  have hl : (ns.take k).length ≤ ns.length := by simp; omega
  obtain ⟨b, off, e, hb, hc⟩ := h (by omega)
  refine ⟨b, off, e, hb, fun i hi => ?_⟩
  have := hc i (by omega)
  have hik : i < k := by simp at hi; omega
  have e2 : (ns.take k).getD i nd0 = ns.getD i nd0 := by simp [hik]
  rw [e2]
  exact this
theorem Nodes.drop {b off : Nat} (h : Nodes w B (some ⟨b, off, none⟩) ns) (k : Nat) : Nodes w B (some ⟨b, off + k * 4, none⟩) (ns.drop k) := fun hn => by
  rw [List.length_drop] at hn
  obtain ⟨b', off', e, hb, hc⟩ := h (by omega)
  cases e
  refine ⟨b, off + k * 4, rfl, hb, fun i hi => ?_⟩
  rw [List.length_drop] at hi
  have := hc (k + i) (by omega)
  have e2 : (ns.drop k).getD i nd0 = ns.getD (k + i) nd0 := by simp [List.getD]
  rw [e2, show off + k * 4 + i * 4 = off + (k + i) * 4 by omega]
  exact this
theorem Nodes.none_eq (h : Nodes w B none ns) : ns = [] := by
  rcases Nat.eq_zero_or_pos ns.length with h0 | h0
  · exact List.eq_nil_of_length_eq_zero h0
  · obtain ⟨b, off, e, _⟩ := h h0
    cases e
end

/-- a node whose numbers are numbers of the program, and whose rows are no greater than may be copied -/
def Fit (n : Nd) : Prop := In n.kind ∧ n.shp.length ≤ 1100000 ∧ n.ints.length ≤ 1100000 ∧ n.decs.length ≤ 1100000 ∧ ∀ x ∈ n.decs, In x.1 ∧ In x.2
def Fits (ns : List Nd) : Prop := ∀ n ∈ ns, Fit n
theorem Fits.take {ns : List Nd} (h : Fits ns) (k : Nat) : Fits (ns.take k) := fun n hn => h n (List.mem_of_mem_take hn)
theorem Fits.drop {ns : List Nd} (h : Fits ns) (k : Nat) : Fits (ns.drop k) := fun n hn => h n (List.mem_of_mem_drop hn)
theorem fit0 : Fit nd0 := by
  refine ⟨⟨by decide, by decide⟩, by decide, by decide, by decide, fun x hx => by cases hx⟩
theorem Fits.at_ {ns : List Nd} (h : Fits ns) (k : Nat) : Fit (ns.getD k nd0) := by
  by_cases hk : k < ns.length
  · rw [show ns.getD k nd0 = ns[k] by simp [List.getD, hk]]
    exact h _ (List.getElem_mem hk)
  · rw [show ns.getD k nd0 = nd0 by simp [List.getD, List.getElem?_eq_none (Nat.le_of_not_lt hk)]]
    exact fit0
theorem drop_nd {ns : List Nd} {k : Nat} (h : k < ns.length) : ns.drop k = ns.getD k nd0 :: ns.drop (k + 1) := by
  rw [List.drop_eq_getElem_cons h]
  congr 1
  simp [List.getD, h]
theorem in_at {ds : List (Int × Int)} (h : ∀ x ∈ ds, In x.1 ∧ In x.2) (k : Nat) : In (ds.getD k (0, 0)).1 ∧ In (ds.getD k (0, 0)).2 := by
  by_cases hk : k < ds.length
  · rw [show ds.getD k (0, 0) = ds[k] by simp [List.getD, hk]]
    exact h _ (List.getElem_mem hk)
  · rw [show ds.getD k (0, 0) = (0, 0) by simp [List.getD, List.getElem?_eq_none (Nat.le_of_not_lt hk)]]
    exact ⟨⟨by decide, by decide⟩, ⟨by decide, by decide⟩⟩
end Go.Proofs.Ytcljpcbgokgcdaa
