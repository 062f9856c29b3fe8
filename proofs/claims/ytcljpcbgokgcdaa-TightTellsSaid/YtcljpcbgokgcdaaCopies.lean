/-
  What array.Copy comes to, called with any nodes: the same in new memory.
-/
import Derived.Test.YtcljpcbgokgcdaaFresh
import Derived.Deep.LoopGhost
import Derived.BigRegion
namespace Go.Proofs.Ytcljpcbgokgcdaa
open Go.RowKit Go.Lib
set_option linter.unusedSimpArgs false
set_option linter.unusedVariables false

def ivs (xs : List Int) : List Value := xs.map fun x => .int .i64 x
def dvs (ds : List (Int × Int)) : List Value := ds.flatMap fun x => [.int .i64 x.1, .int .i64 x.2]
theorem ivs_len (xs : List Int) : (ivs xs).length = xs.length * 1 := by simp [ivs]
theorem dvs_len (ds : List (Int × Int)) : (dvs ds).length = ds.length * 2 := by
  induction ds with
  | nil => rfl
  | cons x ds ih => simp only [dvs, List.flatMap_cons, List.length_append, List.length_cons, List.length_nil] at ih ⊢; omega
theorem ivs_one (xs : List Int) : Ones (ivs xs) := fun u hu => by
  obtain ⟨x, _, rfl⟩ := List.mem_map.1 hu
  rfl
theorem dvs_one (ds : List (Int × Int)) : Ones (dvs ds) := fun u hu => by
  obtain ⟨x, _, hx⟩ := List.mem_flatMap.1 hu
  simp only [List.mem_cons, List.not_mem_nil, or_false] at hx
  rcases hx with rfl | rfl <;> rfl
theorem dvs_get (ds : List (Int × Int)) : ∀ i, i < ds.length → (dvs ds)[i * 2]? = some (.int .i64 (ds.getD i (0, 0)).1) ∧ (dvs ds)[i * 2 + 1]? = some (.int .i64 (ds.getD i (0, 0)).2) := by
  induction ds with
  | nil => intro i hi; simp at hi
  | cons x ds ih =>
    intro i hi
    cases i with
    | zero => simp [dvs]
    | succ i =>
      have := ih i (by simpa using hi)
      simp only [dvs, List.flatMap_cons] at this ⊢
      rw [show (i + 1) * 2 = i * 2 + 1 + 1 by omega]
      simpa using this
theorem addr_add (b off j : Nat) : (⟨b, off, none⟩ : Addr).add j = ⟨b, off + j, none⟩ := by unfold Addr.add; split <;> simp_all
theorem src_nums {w : World} {B : Nat} {A : Option Addr} {xs : List Int} (h : Nums .i64 w B A xs) : Src w A (ivs xs) := fun hp => by
  rw [ivs_len, Nat.mul_one] at hp
  obtain ⟨b, off, rfl, _, hc⟩ := h hp
  refine ⟨_, rfl, fun j u hj => ?_⟩
  have hl : j < xs.length := by
    have := (List.getElem?_eq_some_iff.1 hj).1
    rw [ivs_len] at this
    omega
  rw [addr_add, hc j hl, ← hj]
  simp [ivs, hl]
theorem src_decs {w : World} {B : Nat} {A : Option Addr} {ds : List (Int × Int)} (h : Decs w B A ds) : Src w A (dvs ds) := fun hp => by
  rw [dvs_len] at hp
  obtain ⟨b, off, rfl, _, hc⟩ := h (by omega)
  refine ⟨_, rfl, fun j u hj => ?_⟩
  have hl : j / 2 < ds.length := by
    have := (List.getElem?_eq_some_iff.1 hj).1
    rw [dvs_len] at this
    omega
  rw [addr_add, ← hj]
  obtain ⟨h1, h2⟩ := hc (j / 2) hl
  obtain ⟨g1, g2⟩ := dvs_get ds (j / 2) hl
  rcases Nat.mod_two_eq_zero_or_one j with h0 | h0
  · rw [show j / 2 * 2 = j by omega] at h1 g1
    rw [h1, g1]
  · rw [show off + j / 2 * 2 + 1 = off + j by omega] at h2
    rw [show j / 2 * 2 + 1 = j by omega] at g2
    rw [h2, g2]
theorem nums_cells {w : World} {g : Nat} {t : TypeId} {xs : List Int} (h : w.heap[g]? = some (.cells (ivs xs).toArray t (0, 0))) : Nums .i64 w w.heap.size (some ⟨g, 0, none⟩) xs := fun _ => by
  refine ⟨g, 0, rfl, ?_, fun i hi => ?_⟩
  · rcases Nat.lt_or_ge g w.heap.size with k | k
    · exact k
    · rw [Array.getElem?_eq_none k] at h; cases h
  · rw [Nat.zero_add, cell_of_row w g i _ t (0, 0) h]
    simp [ivs, hi]
theorem decs_cells {w : World} {g : Nat} {t : TypeId} {ds : List (Int × Int)} (h : w.heap[g]? = some (.cells (dvs ds).toArray t (0, 0))) : Decs w w.heap.size (some ⟨g, 0, none⟩) ds := fun _ => by
  refine ⟨g, 0, rfl, ?_, fun i hi => ?_⟩
  · rcases Nat.lt_or_ge g w.heap.size with k | k
    · exact k
    · rw [Array.getElem?_eq_none k] at h; cases h
  · obtain ⟨g1, g2⟩ := dvs_get ds i hi
    rw [Nat.zero_add, cell_of_row w g _ _ t (0, 0) h, cell_of_row w g _ _ t (0, 0) h]
    exact ⟨by simpa using g1, by simpa using g2⟩

/-- node number i of a row is one's own, in all depths -/
def OwnN (w : World) (g : Nat) (f : Nat → Value) (i : Nat) (n : Nd) : Prop :=
  ∃ b1 b2 b3, g < b1 ∧ g < b2 ∧ g < b3 ∧ f (i * 4) = .int .i64 n.kind ∧ f (i * 4 + 1) = .slice (some ⟨b1, 0, none⟩) n.shp.length n.shp.length ∧ f (i * 4 + 2) = .slice (some ⟨b2, 0, none⟩) n.ints.length n.ints.length ∧
    f (i * 4 + 3) = .slice (some ⟨b3, 0, none⟩) n.decs.length n.decs.length ∧ w.heap[b1]? = some (.cells (ivs n.shp).toArray 3 (0, 0)) ∧ w.heap[b2]? = some (.cells (ivs n.ints).toArray 3 (0, 0)) ∧
    w.heap[b3]? = some (.cells (dvs n.decs).toArray 42 (0, 0))
theorem heap_lt {w : World} {g : Nat} {o : Obj} (h : w.heap[g]? = some o) : g < w.heap.size := by
  rcases Nat.lt_or_ge g w.heap.size with k | k
  · exact k
  · rw [Array.getElem?_eq_none k] at h; cases h
theorem OwnN.kept {w w' : World} {g : Nat} {f f' : Nat → Value} {i : Nat} {n : Nd} (h : OwnN w g f i n) (hk : Kept (fun k => k = g) w w') (hf : ∀ j, i * 4 ≤ j → j < i * 4 + 4 → f' j = f j) : OwnN w' g f' i n := by
  obtain ⟨b1, b2, b3, g1, g2, g3, h0, h1, h2, h3, r1, r2, r3⟩ := h
  refine ⟨b1, b2, b3, g1, g2, g3, by rw [hf _ (by omega) (by omega), h0], by rw [hf _ (by omega) (by omega), h1], by rw [hf _ (by omega) (by omega), h2], by rw [hf _ (by omega) (by omega), h3], ?_, ?_, ?_⟩
  · exact (hk.block b1 (heap_lt r1) (by show ¬ b1 = g; omega)).trans r1
  · exact (hk.block b2 (heap_lt r2) (by show ¬ b2 = g; omega)).trans r2
  · exact (hk.block b3 (heap_lt r3) (by show ¬ b3 = g; omega)).trans r3
/-- the nodes ns, in memory that nobody else has: the row is block g, all else lies behind it -/
def Copied (w : World) (g : Nat) (ns : List Nd) : Prop := ∃ f, w.rowIs g 30 (ns.length * 4) f ∧ ∀ i, i < ns.length → OwnN w g f i (ns.getD i nd0)
theorem Copied.grow {w w' : World} {g : Nat} {ns : List Nd} (h : Copied w g ns) (hg : Grow w w') : Copied w' g ns := by
  obtain ⟨f, hr, ho⟩ := h
  exact ⟨f, hr.of_block (hg.block g hr.lt), fun i hi => (ho i hi).kept (Kept.of_grow hg) (fun _ _ _ => rfl)⟩
theorem Copied.nodes {w : World} {g : Nat} {ns : List Nd} (h : Copied w g ns) : Nodes w w.heap.size (some ⟨g, 0, none⟩) ns := fun _ => by
  obtain ⟨f, hr, ho⟩ := h
  refine ⟨g, 0, rfl, hr.lt, fun i hi => ?_⟩
  obtain ⟨b1, b2, b3, g1, g2, g3, h0, h1, h2, h3, r1, r2, r3⟩ := ho i hi
  refine ⟨some ⟨b1, 0, none⟩, (ns.getD i nd0).shp.length, some ⟨b2, 0, none⟩, (ns.getD i nd0).ints.length, some ⟨b3, 0, none⟩, (ns.getD i nd0).decs.length, ?_, ?_, ?_, ?_, nums_cells r1, nums_cells r2, decs_cells r3⟩
  · rw [Nat.zero_add, hr.cell (by omega), h0]
  · rw [Nat.zero_add, hr.cell (by omega), h1]
  · rw [Nat.zero_add, hr.cell (by omega), h2]
  · rw [Nat.zero_add, hr.cell (by omega), h3]

/-- the cells of a row of nodes, as they are -/
def rawN (w : World) (b off n : Nat) : List Value := (List.range (n * 4)).map fun j => (w.cell? ⟨b, off + j, none⟩).getD undef
theorem rawN_len (w : World) (b off n : Nat) : (rawN w b off n).length = n * 4 := by simp [rawN]
theorem rawN_get {w : World} {b off n j : Nat} (hj : j < n * 4) : (rawN w b off n)[j]? = some ((w.cell? ⟨b, off + j, none⟩).getD undef) := by simp [rawN, hj]
theorem raw_cell {w : World} {B b off : Nat} {ns : List Nd} (hc : ∀ i, i < ns.length → NodeAt w B b (off + i * 4) (ns.getD i nd0)) {j : Nat} (hj : j < ns.length * 4) : ∃ v, w.cell? ⟨b, off + j, none⟩ = some v ∧ v.oneCell' = true := by
  obtain ⟨A1, c1, A2, c2, A3, c3, h0, h1, h2, h3, _⟩ := hc (j / 4) (by omega)
  have h4 : j % 4 = 0 ∨ j % 4 = 1 ∨ j % 4 = 2 ∨ j % 4 = 3 := by omega
  rcases h4 with h4 | h4 | h4 | h4
  · exact ⟨_, by rw [show off + j = off + j / 4 * 4 by omega]; exact h0, rfl⟩
  · exact ⟨_, by rw [show off + j = off + j / 4 * 4 + 1 by omega]; exact h1, rfl⟩
  · exact ⟨_, by rw [show off + j = off + j / 4 * 4 + 2 by omega]; exact h2, rfl⟩
  · exact ⟨_, by rw [show off + j = off + j / 4 * 4 + 3 by omega]; exact h3, rfl⟩
theorem src_nodes {w : World} {B : Nat} {A : Option Addr} {ns : List Nd} (h : Nodes w B A ns) : ∃ vs, vs.length = ns.length * 4 ∧ Ones vs ∧ Src w A vs ∧ ∀ b off, A = some ⟨b, off, none⟩ → ∀ j, j < ns.length * 4 → ∃ v, vs[j]? = some v ∧ w.cell? ⟨b, off + j, none⟩ = some v := by
  rcases Nat.eq_zero_or_pos ns.length with h0 | h0
  · exact ⟨[], by simp [h0], (fun u hu => by cases hu), (fun hp => by simp at hp), fun b off _ j hj => by omega⟩
  · obtain ⟨b, off, rfl, hb, hc⟩ := h h0
    refine ⟨rawN w b off ns.length, rawN_len _ _ _ _, fun u hu => ?_, fun _ => ⟨_, rfl, fun j u hj => ?_⟩, fun b' off' e j hj => ?_⟩
    · obtain ⟨j, hj, rfl⟩ := List.mem_map.1 hu
      obtain ⟨v, hv, h1⟩ := raw_cell hc (List.mem_range.1 hj)
      rw [hv]
      exact h1
    · have hl : j < ns.length * 4 := by
        have := (List.getElem?_eq_some_iff.1 hj).1
        rwa [rawN_len] at this
      rw [rawN_get hl] at hj
      obtain ⟨v, hv, _⟩ := raw_cell hc hl
      rw [addr_add, hv]
      rw [hv] at hj
      exact hj
    · cases e
      obtain ⟨v, hv, _⟩ := raw_cell hc hj
      exact ⟨v, by rw [rawN_get hj, hv]; rfl, hv⟩
theorem row_of_cells {w : World} {g : Nat} {t : TypeId} {vs : List Value} {m : Nat} (h : w.heap[g]? = some (.cells vs.toArray t (0, 0))) (hl : vs.length = m) : w.rowIs g t m (fun j => vs.getD j undef) :=
  ⟨vs.toArray, h, by simpa using hl, fun i hi => by simp [List.getD, hl ▸ hi]⟩
def CopyP (ns : List Nd) (n : Nat) (w : World) (e : Ending) (w' : World) : Prop :=
  e = .returned (.slice (some ⟨w.heap.size, 0, none⟩) n n) ∧ Copied w' w.heap.size ns ∧ Grow w w'

set_option maxRecDepth 10000 in
set_option maxHeartbeats 3200000 in
theorem copy_any (A : Option Addr) (n c : Nat) (ns : List Nd) (w : World) (hn : ns.length = n) (hnb : n ≤ 1100000) (hf : Fits ns) (hns : Nodes w w.heap.size A ns) :
    Calls Try.prog 28 #[.slice A n c] w (CopyP ns n w) := by
  obtain ⟨vs, hvl, hv1, hvs, hvc⟩ := src_nodes hns
  rw [hn] at hvl hvc
  have HF := Lib.hid hf
  have HNS := Lib.hid hns
  have HN := Lib.hid hn
  have HVL := Lib.hid hvl
  have HVC := Lib.hid hvc
  have HC := Lib.hid (freshn_any A n c vs w hnb hvl hv1 hvs)
  clear hf hns hn hvl hvc hvs hv1
  obtain ⟨g, hg⟩ : ∃ g, w.heap.size = g := ⟨_, rfl⟩
  unfold FreshP at HC
  rw [hg] at HC
  have HG := Lib.hid hg
  clear hg
  go_enter Try.func28, Try.ntmps28
  go_wp2_with fail
  refine (HC.out).mono ?_
  rintro e w1 ⟨rfl, hg1, hz1, hr1⟩
  have HG1 := Lib.hid hg1
  have HZ1 := Lib.hid hz1
  have HR1 := Lib.hid (row_of_cells hr1 HVL.out)
  clear hg1 hz1 hr1 HC
  go_wp2
  go_loopg [10] n (fun gk s10 wr => ∃ (k : Nat) (f : Nat → Value), k ≤ n ∧ gk = n - k ∧ s10 = .int .i64 (k : Nat) ∧ Hid (wr.rowIs g 30 (n * 4) f) ∧ Hid (∀ i, i < k → OwnN wr g f i (ns.getD i nd0)) ∧
    Hid (∀ j, k * 4 ≤ j → j < n * 4 → f j = vs.getD j undef) ∧ Hid (Grow w wr))
  case atStart => exact ⟨0, _, Nat.zero_le _, rfl, rfl, HR1, Lib.hid (fun i hi => absurd hi (by omega)), Lib.hid (fun _ _ _ => rfl), HG1⟩
  case round =>
    obtain ⟨k, f, hk, rfl, rfl, HR, HO, HE, HGR⟩ := hrel
    by_cases hlt : k < n
    · have hlti : ((k : Nat) : Int) < ((n : Nat) : Int) := by omega
      have hkl : k < ns.length := by rw [HN.out]; exact hlt
      obtain ⟨b, off, rfl, hb, hat⟩ := HNS.out (by omega)
      obtain ⟨A1, c1, A2, c2, A3, c3, p0, p1, p2, p3, hnd⟩ := hat k hkl
      have HND := Lib.hid (hnd.grow HGR.out)
      have HFIT := Lib.hid (HF.out.at_ k)
      have cell : ∀ j v, k * 4 ≤ j → j < n * 4 → w.cell? ⟨b, off + j, none⟩ = some v → wr.cell? ⟨g, j, none⟩ = some v := fun j v h1 h2 h3 => by
        rw [HR.out.cell h2, HE.out j h1 h2]
        obtain ⟨u, hu, hc⟩ := HVC.out b off rfl j h2
        rw [h3] at hc
        cases hc
        simp [List.getD, hu]
      have q0 := cell (k * 4) _ (by omega) (by omega) p0
      have q1 := cell (k * 4 + 1) _ (by omega) (by omega) p1
      have q2 := cell (k * 4 + 2) _ (by omega) (by omega) p2
      have q3 := cell (k * 4 + 3) _ (by omega) (by omega) p3
      clear cell hat hnd p0 p1 p2 p3 hb
      obtain ⟨nd, hnd⟩ : ∃ nd, ns.getD k nd0 = nd := ⟨_, rfl⟩
      rw [hnd] at HND HFIT q0 q1 q2 q3
      have HNDE := Lib.hid hnd
      clear hnd
      have HSZ := Lib.hid (show g < wr.heap.size from HR.out.lt)
      have hl1 := HFIT.out.2.1
      have hl2 := HFIT.out.2.2.1
      have hl3 := HFIT.out.2.2.2.1
      obtain ⟨B0, hB0⟩ : ∃ B0, wr.heap.size = B0 := ⟨_, rfl⟩
      have HB0 := Lib.hid hB0
      have f0 := HR.out.frozen (k * 4)
      have f1 := HR.out.frozen (k * 4 + 1)
      have f2 := HR.out.frozen (k * 4 + 2)
      have f3 := HR.out.frozen (k * 4 + 3)
      clear hB0
      go_wp2
      generalize hw2 : World.alloc wr _ = w2
      have HK2 := Lib.hid (show Grow wr w2 by rw [← hw2]; exact grow_new _ _)
      have HBX := Lib.hid (show w2.heap[wr.heap.size]? = some (.cells #[.int .i64 nd.kind, .slice A1 nd.shp.length c1, .slice A2 nd.ints.length c2, .slice A3 nd.decs.length c3] 30 (0, 0)) by rw [← hw2]; exact heap_alloc_new _ _)
      clear hw2 q0 q1 q2 q3 f0 f1 f2 f3
      refine wp_region_R ((Kept (fun k => k = g))) (n := 16) rfl (by kernel_rfl) ?_
      intro W0 hW0e hW0
      have HW0 := Lib.hid hW0
      have hbx : ∀ wg, Kept (fun k => k = g) W0 wg → wg.heap[wr.heap.size]? = some (.cells #[.int .i64 nd.kind, .slice A1 nd.shp.length c1, .slice A2 nd.ints.length c2, .slice A3 nd.decs.length c3] 30 (0, 0)) := fun wg h => by
        have h1 := heap_lt HBX.out
        have h2 := HSZ.out
        have h3 := HW0.out.size
        rw [h.block wr.heap.size (by omega) (by show ¬ wr.heap.size = g; omega), HW0.out.block wr.heap.size h1]
        exact HBX.out
      have b0 : ∀ wg, Kept (fun k => k = g) W0 wg → wg.cell? ⟨wr.heap.size, 0, none⟩ = some (.int .i64 nd.kind) := fun wg h => cell_of_row wg _ 0 _ _ (0, 0) (hbx wg h)
      have b1 : ∀ wg, Kept (fun k => k = g) W0 wg → wg.cell? ⟨wr.heap.size, 1, none⟩ = some (.slice A1 nd.shp.length c1) := fun wg h => cell_of_row wg _ 1 _ _ (0, 0) (hbx wg h)
      have b2 : ∀ wg, Kept (fun k => k = g) W0 wg → wg.cell? ⟨wr.heap.size, 2, none⟩ = some (.slice A2 nd.ints.length c2) := fun wg h => cell_of_row wg _ 2 _ _ (0, 0) (hbx wg h)
      have b3 : ∀ wg, Kept (fun k => k = g) W0 wg → wg.cell? ⟨wr.heap.size, 3, none⟩ = some (.slice A3 nd.decs.length c3) := fun wg h => cell_of_row wg _ 3 _ _ (0, 0) (hbx wg h)
      have HGW := Lib.hid (HK2.out.trans HW0.out)
      clear hbx
      clear hW0e
      refine wpR_take (keptOrd (fun k => k = g)) (i := 0) (v := ?vf1) rfl (by kernel_rfl) (by kernel_rfl) (by kernel_rfl) (fun _ _ _ h => h) (by rfl) ?hf1 ?rf1
      case hf1 => (intro wg hSw; go_simp <;> with_reducible rfl)
      simp only [Act.put, List.setIfInBounds_toArray, List.set_cons_zero, List.set_cons_succ]
      refine wpR_take (keptOrd (fun k => k = g)) (i := 1) (v := ?vf2) rfl (by kernel_rfl) (by kernel_rfl) (by kernel_rfl) (fun _ _ _ h => h) (by rfl) ?hf2 ?rf2
      case hf2 => (intro wg hSw; go_simp <;> with_reducible rfl)
      simp only [Act.put, List.setIfInBounds_toArray, List.set_cons_zero, List.set_cons_succ]
      refine wpR_take (keptOrd (fun k => k = g)) (i := 2) (v := ?vf3) rfl (by kernel_rfl) (by kernel_rfl) (by kernel_rfl) (fun _ _ _ h => h) (by rfl) ?hf3 ?rf3
      case hf3 => (intro wg hSw; go_simp <;> with_reducible rfl)
      simp only [Act.put, List.setIfInBounds_toArray, List.set_cons_zero, List.set_cons_succ]
      refine wpR_take (keptOrd (fun k => k = g)) (i := 3) (v := ?vf4) rfl (by kernel_rfl) (by kernel_rfl) (by kernel_rfl) (fun _ _ _ h => h) (by rfl) ?hf4 ?rf4
      case hf4 => (intro wg hSw; go_simp <;> with_reducible rfl)
      simp only [Act.put, List.setIfInBounds_toArray, List.set_cons_zero, List.set_cons_succ]
      refine wpR_take (keptOrd (fun k => k = g)) (i := 4) (v := ?vf5) rfl (by kernel_rfl) (by kernel_rfl) (by kernel_rfl) (fun _ _ _ h => h) (by rfl) ?hf5 ?rf5
      case hf5 => (intro wg hSw; go_simp <;> with_reducible rfl)
      simp only [Act.put, List.setIfInBounds_toArray, List.set_cons_zero, List.set_cons_succ]
      refine wpR_take (keptOrd (fun k => k = g)) (i := 5) (v := ?vf6) rfl (by kernel_rfl) (by kernel_rfl) (by kernel_rfl) (fun _ _ _ h => h) (by rfl) ?hf6 ?rf6
      case hf6 => (intro wg hSw; go_simp <;> with_reducible rfl)
      simp only [Act.put, List.setIfInBounds_toArray, List.set_cons_zero, List.set_cons_succ]
      refine wpR_take (keptOrd (fun k => k = g)) (i := 7) (v := ?vf7) rfl (by kernel_rfl) (by kernel_rfl) (by kernel_rfl) (fun _ _ _ h => h) (by rfl) ?hf7 ?rf7
      case hf7 => (intro wg hSw; go_simp <;> with_reducible rfl)
      simp only [Act.put, List.setIfInBounds_toArray, List.set_cons_zero, List.set_cons_succ]
      refine wpR_take (keptOrd (fun k => k = g)) (i := 8) (v := ?vf8) rfl (by kernel_rfl) (by kernel_rfl) (by kernel_rfl) (fun _ _ _ h => h) (by rfl) ?hf8 ?rf8
      case hf8 => (intro wg hSw; go_simp <;> with_reducible rfl)
      simp only [Act.put, List.setIfInBounds_toArray, List.set_cons_zero, List.set_cons_succ]
      refine wpR_take (keptOrd (fun k => k = g)) (i := 10) (v := ?vf9) rfl (by kernel_rfl) (by kernel_rfl) (by kernel_rfl) (fun _ _ _ h => h) (by rfl) ?hf9 ?rf9
      case hf9 => (intro wg hSw; go_simp <;> with_reducible rfl)
      simp only [Act.put, List.setIfInBounds_toArray, List.set_cons_zero, List.set_cons_succ]
      refine wpR_take (keptOrd (fun k => k = g)) (i := 11) (v := ?vf10) rfl (by kernel_rfl) (by kernel_rfl) (by kernel_rfl) (fun _ _ _ h => h) (by rfl) ?hf10 ?rf10
      case hf10 => (intro wg hSw; go_simp <;> with_reducible rfl)
      simp only [Act.put, List.setIfInBounds_toArray, List.set_cons_zero, List.set_cons_succ]
      refine wpR_one (i := 6) (by kernel_rfl) ?_
      refine wpR_op (i := 6) rfl (by rfl) (fun K hK => ?_)
      go_simp
      refine (freshi_any A1 nd.shp.length c1 (ivs nd.shp) _ hl1 (ivs_len _) (ivs_one _) (src_nums (HND.out.grow HGW.out).1)).mono ?_
      rintro e wM6 ⟨rfl, hg6, hz6, hr6⟩
      have HG6 := Lib.hid (HGW.out.trans hg6)
      have HR6 := Lib.hid hr6
      have HW6 := Lib.hid (HGW.out.size)
      have hM6 : Kept (fun k => k = g) W0 wM6 := Kept.of_grow hg6
      clear hg6 hz6 hr6
      refine hK.out _ _ hM6 ?_
      clear hK K
      try simp only [Act.put, List.setIfInBounds_toArray, List.set_cons_zero, List.set_cons_succ]
      refine wpR_one (i := 9) (by kernel_rfl) ?_
      refine wpR_op (i := 9) rfl (by rfl) (fun K hK => ?_)
      go_simp
      refine (freshi_any A2 nd.ints.length c2 (ivs nd.ints) _ hl2 (ivs_len _) (ivs_one _) (src_nums (HND.out.grow HG6.out).2.1)).mono ?_
      rintro e wM9 ⟨rfl, hg9, hz9, hr9⟩
      have HG9 := Lib.hid (HG6.out.trans hg9)
      have HR9 := Lib.hid hr9
      have HW9 := Lib.hid HG6.out.size
      have HR6' := Lib.hid ((hg9.block _ (heap_lt HR6.out)).trans HR6.out)
      have hM9 : Kept (fun k => k = g) wM6 wM9 := Kept.of_grow hg9
      clear hg9 hz9 hr9
      refine hK.out _ _ hM9 ?_
      clear hK K
      try simp only [Act.put, List.setIfInBounds_toArray, List.set_cons_zero, List.set_cons_succ]
      refine wpR_one (i := 12) (by kernel_rfl) ?_
      refine wpR_op (i := 12) rfl (by rfl) (fun K hK => ?_)
      go_simp
      refine (freshd_any A3 nd.decs.length c3 (dvs nd.decs) _ hl3 (dvs_len _) (dvs_one _) (src_decs (HND.out.grow HG9.out).2.2)).mono ?_
      rintro e wM12 ⟨rfl, hg12, hz12, hr12⟩
      have HG12 := Lib.hid (HG9.out.trans hg12)
      have HR12 := Lib.hid hr12
      have HW12 := Lib.hid HG9.out.size
      have HR6'' := Lib.hid ((hg12.block _ (heap_lt HR6'.out)).trans HR6'.out)
      have HR9' := Lib.hid ((hg12.block _ (heap_lt HR9.out)).trans HR9.out)
      have hM12 : Kept (fun k => k = g) wM9 wM12 := Kept.of_grow hg12
      have HROW := Lib.hid (HR.out.of_block (HG12.out.block g HSZ.out))
      have f0 := HROW.out.frozen (k * 4)
      have f1 := HROW.out.frozen (k * 4 + 1)
      have f2 := HROW.out.frozen (k * 4 + 2)
      have f3 := HROW.out.frozen (k * 4 + 3)
      have q0 := HROW.out.cell (i := k * 4) (by omega)
      have q1 := HROW.out.cell (i := k * 4 + 1) (by omega)
      have q2 := HROW.out.cell (i := k * 4 + 2) (by omega)
      have q3 := HROW.out.cell (i := k * 4 + 3) (by omega)
      clear hg12 hz12 hr12
      refine hK.out _ _ hM12 ?_
      clear hK K
      try simp only [Act.put, List.setIfInBounds_toArray, List.set_cons_zero, List.set_cons_succ]
      refine wpR_take (keptOrd (fun k => k = g)) (i := 13) (v := ?vf11) rfl (by kernel_rfl) (by kernel_rfl) (by kernel_rfl) (fun _ _ _ h => h) (by rfl) ?hf11 ?rf11
      case hf11 => (intro wg hSw; go_simp <;> with_reducible rfl)
      simp only [Act.put, List.setIfInBounds_toArray, List.set_cons_zero, List.set_cons_succ]
      refine wpR_take (keptOrd (fun k => k = g)) (i := 14) (v := ?vf12) rfl (by kernel_rfl) (by kernel_rfl) (by kernel_rfl) (fun _ _ _ h => h) (by rfl) ?hf12 ?rf12
      case hf12 => (intro wg hSw; go_simp <;> with_reducible rfl)
      simp only [Act.put, List.setIfInBounds_toArray, List.set_cons_zero, List.set_cons_succ]
      refine wpR_one (i := 15) (by kernel_rfl) ?_
      refine wpR_op (i := 15) rfl (by rfl) (fun K hK => ?_)
      go_simp
      refine hK.out _ _ ?_ ?_
      · exact (((Kept.refl _ _).one _).one _).one _ |>.one _
      clear hK K
      try simp only [Act.put, List.setIfInBounds_toArray, List.set_cons_zero, List.set_cons_succ]
      generalize hwM15 : World.setCell _ _ _ = wM15
      have hM15 : Kept (fun k => k = g) wM12 wM15 := by rw [← hwM15]; exact (((Kept.refl _ _).one _).one _).one _ |>.one _
      have HROW2 := Lib.hid (show wM15.rowIs g 30 (n * 4) _ by rw [← hwM15]; exact (((HROW.out.set (k * 4) _).set (k * 4 + 1) _).set (k * 4 + 2) _).set (k * 4 + 3) _)
      clear hwM15 q0 q1 q2 q3 f0 f1 f2 f3
      refine wpR_done (by kernel_rfl) ?_
      have HK := Lib.hid ((Kept.of_grow (S := fun k => k = g) HG12.out).trans hM15)
      have HQ1 := Lib.hid ((hM15.block _ (heap_lt HR6''.out) (by have := HSZ.out; have := HW6.out; show ¬ W0.heap.size = g; omega)).trans HR6''.out)
      have HQ2 := Lib.hid ((hM15.block _ (heap_lt HR9'.out) (by have := HSZ.out; have := HW9.out; show ¬ wM6.heap.size = g; omega)).trans HR9'.out)
      have HQ3 := Lib.hid ((hM15.block _ (heap_lt HR12.out) (by have := HSZ.out; have := HW12.out; show ¬ wM9.heap.size = g; omega)).trans HR12.out)
      clear b0 b1 b2 b3 hM6 hM9 hM12 hM15
      go_wp2
      go_roundg (n - (k + 1))
      case rel =>
        refine ⟨k + 1, _, by omega, rfl, by go_num, HROW2, Lib.hid (fun i hi => ?_), Lib.hid (fun j h1 h2 => ?_), Lib.hid ?_⟩
        · by_cases hik : i = k
          · subst hik
            have g1 : g < W0.heap.size := by have := HSZ.out; have := HW6.out; omega
            have g2 : g < wM6.heap.size := by have := HSZ.out; have := HW9.out; omega
            have g3 : g < wM9.heap.size := by have := HSZ.out; have := HW12.out; omega
            refine ⟨W0.heap.size, wM6.heap.size, wM9.heap.size, g1, g2, g3, ?_, ?_, ?_, ?_, ?_, ?_, ?_⟩
            all_goals first | (rw [HNDE.out]; simp; done) | skip
            · rw [HNDE.out]; exact HQ1.out
            · rw [HNDE.out]; exact HQ2.out
            · rw [HNDE.out]; exact HQ3.out
          · refine (HO.out i (by omega)).kept HK.out (fun j h1 h2 => ?_)
            have e0 : ¬ j = k * 4 := by omega
            have e1 : ¬ j = k * 4 + 1 := by omega
            have e2 : ¬ j = k * 4 + 2 := by omega
            have e3 : ¬ j = k * 4 + 3 := by omega
            simp [e0, e1, e2, e3]
        · have e0 : ¬ j = k * 4 := by omega
          have e1 : ¬ j = k * 4 + 1 := by omega
          have e2 : ¬ j = k * 4 + 2 := by omega
          have e3 : ¬ j = k * 4 + 3 := by omega
          simp only [e0, e1, e2, e3, if_false]
          exact HE.out j (by omega) h2
        · exact Kept.grow HGR.out HK.out (fun i e => by rw [HG.out]; exact Nat.le_of_eq e.symm)
      case measure => omega
    · obtain rfl : n = k := by omega
      go_wp2
      go_ret
      exact ⟨by rw [HG.out]; rfl, by rw [HG.out]; exact ⟨f, by rw [HN.out]; exact HR.out, fun i hi => HO.out i (by rw [← HN.out]; exact hi)⟩, HGR.out⟩
end Go.Proofs.Ytcljpcbgokgcdaa
