/-
  Exact numbers and whole ones in memory: slices that read as lists, and rows of one's own. Nothing is claimed here by itself.
-/
import Derived.Test.YtkebngldmcoaaaaGreatDoorBox
import Derived.Test.YtkebngldmcoaaaaGreatDoorProg
import Derived.ProofKit
import Derived.WalkKit
import Derived.Laws.CopyOwn
import Derived.Laws.MakeOwn
import Derived.Laws.AppendOwnNone
import Derived.ArgAppend
import Derived.Maps.AppendAt
import Derived.Lib.Hide
import Derived.Lib.SmallJoins
import Derived.OpenShut
namespace Go.Proofs.YtkebngldmcoaaaaGreatDoor
open Go.RowKit Go.Lib
set_option linter.unusedSimpArgs false
set_option linter.unusedVariables false

/-- the slice at address A holds the exact numbers ds; it lies below block B -/
def Decs (w : World) (B : Nat) (A : Option Addr) (ds : List (Int × Int)) : Prop :=
  0 < ds.length → ∃ b off, A = some ⟨b, off, none⟩ ∧ b < B ∧ ∀ i, i < ds.length → w.cell? ⟨b, off + i * 2, none⟩ = some (.int .i64 (ds.getD i (0, 0)).1) ∧ w.cell? ⟨b, off + i * 2 + 1, none⟩ = some (.int .i64 (ds.getD i (0, 0)).2)
section
variable {w w' : World} {B B' : Nat} {A : Option Addr} {ds : List (Int × Int)}
theorem Decs.keep (h : Decs w B A ds) (hk : ∀ p : Addr, p.block < B → w'.cell? p = w.cell? p) : Decs w' B A ds := fun hn => by
  obtain ⟨b, off, e, hb, hc⟩ := h hn
  exact ⟨b, off, e, hb, fun i hi => ⟨(hk _ hb).trans (hc i hi).1, (hk _ hb).trans (hc i hi).2⟩⟩
theorem Decs.more (h : Decs w B A ds) (hB : B ≤ B') : Decs w B' A ds := fun hn => by
  obtain ⟨b, off, e, hb, hc⟩ := h hn
  exact ⟨b, off, e, by omega, hc⟩
theorem Decs.below (h : Decs w B A ds) (hb : Below B w w') : Decs w' B A ds := h.keep fun _ hp => hb.cell hp
theorem Decs.none_ : Decs w B A [] := fun h => absurd h (by simp)
theorem Decs.grow (h : Decs w w.heap.size A ds) (hg : Grow w w') : Decs w' w'.heap.size A ds := (h.below hg).more hg.size
end

theorem heap_lt {w : World} {b : Nat} {o : Obj} (h : w.heap[b]? = some o) : b < w.heap.size := (Array.getElem?_eq_some_iff.1 h).1
def ivs (xs : List Int) : List Value := xs.map fun x => .int .i64 x
def dvs (ds : List (Int × Int)) : List Value := ds.flatMap fun x => [.int .i64 x.1, .int .i64 x.2]
/-- the cells that a slice reads -/
def Src (w : World) (A : Option Addr) (vs : List Value) : Prop := 0 < vs.length → ∃ ad, A = some ad ∧ ∀ j u, vs[j]? = some u → w.cell? (ad.add j) = some u
def Ones (vs : List Value) : Prop := ∀ u ∈ vs, u.oneCell' = true
theorem info_of {P : Program} {e : TypeId} {z : Value} {size bytes : Nat} (h : (P.info? e).map (fun i => (i.zero, i.size, i.bytes)) = some (some z, size, bytes)) : ∃ i, P.info? e = some i ∧ i.zero = some z ∧ i.size = size ∧ i.bytes = bytes := by
  obtain ⟨i, hi, hz⟩ := Option.map_eq_some_iff.1 h
  simp only [Prod.mk.injEq] at hz
  exact ⟨i, hi, hz.1, hz.2.1, hz.2.2⟩
theorem make_of {P : Program} {t e : TypeId} {z : Value} {size bytes : Nat} (ht : P.underlying t = some (.slice e)) (h : (P.info? e).map (fun i => (i.zero, i.size, i.bytes)) = some (some z, size, bytes)) (n : Nat) (hb : bytes * n ≤ 281474976710656) (hn : n ≤ 9223372036854775807) :
    ∃ cur : Array Value, cur.size = n * size ∧ ∀ W : World, (Instr.makeSlice t (.int .i64 (n : Nat)) (.int .i64 (n : Nat))).run P W = .ok (.slice (some ⟨W.heap.size, 0, none⟩) n n) (W.alloc (.cells cur e)) := by
  obtain ⟨i, hi, hz, hs, hby⟩ := info_of h
  refine ⟨madeCells z.cells (n * size), size_madeCells _ _, fun W => ?_⟩
  have hb' : (i.bytes : Int) * ((n : Nat) : Int) ≤ 281474976710656 := by
    have h : ((i.bytes * n : Nat) : Int) ≤ 281474976710656 := by rw [hby]; omega
    rwa [Int.natCast_mul] at h
  have hr := run_make (P := P) W t e i z ht hi hz .i64 .i64 n n (by omega) (Int.le_refl _) hb' (by omega)
  simp only [Int.toNat_natCast, hs] at hr
  exact hr
theorem info_int : (Tryz.prog.info? 3).map (fun i => (i.zero, i.size, i.bytes)) = some (some (.int .i64 0), 1, 8) := by kernel_rfl
theorem info_dec : (Tryz.prog.info? 28).map (fun i => (i.zero, i.size, i.bytes)) = some (some (.agg #[.int .i64 0, .int .i64 0]), 2, 16) := by kernel_rfl
theorem info_str : (Tryz.prog.info? 9).map (fun i => (i.zero, i.size, i.bytes)) = some (some (.string ⟨#[]⟩), 1, 16) := by kernel_rfl
theorem ivs_len (xs : List Int) : (ivs xs).length = xs.length * 1 := by simp [ivs]
theorem dvs_len (ds : List (Int × Int)) : (dvs ds).length = ds.length * 2 := by
  induction ds with
  | nil => rfl
  | cons x ds ih => simp only [dvs, List.flatMap_cons, List.length_append, List.length_cons, List.length_nil] at ih ⊢; omega
theorem ivs_one (xs : List Int) : Ones (ivs xs) := fun u hu => by
  obtain ⟨x, _, rfl⟩ := List.mem_map.1 hu
  rfl
theorem dvs_one (ds : List (Int × Int)) : Ones (dvs ds) := fun u hu => by
  obtain ⟨x, _, hx⟩ := List.mem_flatMap.1 hu
  simp only [List.mem_cons, List.not_mem_nil, or_false] at hx
  rcases hx with rfl | rfl <;> rfl
theorem dvs_get (ds : List (Int × Int)) : ∀ i, i < ds.length → (dvs ds)[i * 2]? = some (.int .i64 (ds.getD i (0, 0)).1) ∧ (dvs ds)[i * 2 + 1]? = some (.int .i64 (ds.getD i (0, 0)).2) := by
  induction ds with
  | nil => intro i hi; simp at hi
  | cons x ds ih =>
    intro i hi
    cases i with
    | zero => simp [dvs]
    | succ i =>
      have := ih i (by simpa using hi)
      simp only [dvs, List.flatMap_cons] at this ⊢
      rw [show (i + 1) * 2 = i * 2 + 1 + 1 by omega]
      simpa using this
theorem addr_add (b off j : Nat) : (⟨b, off, none⟩ : Addr).add j = ⟨b, off + j, none⟩ := by unfold Addr.add; split <;> simp_all
theorem src_nums {w : World} {B : Nat} {A : Option Addr} {xs : List Int} (h : Nums .i64 w B A xs) : Src w A (ivs xs) := fun hp => by
  rw [ivs_len, Nat.mul_one] at hp
  obtain ⟨b, off, rfl, _, hc⟩ := h hp
  refine ⟨_, rfl, fun j u hj => ?_⟩
  have hl : j < xs.length := by
    have := (List.getElem?_eq_some_iff.1 hj).1
    rw [ivs_len] at this
    omega
  rw [addr_add, hc j hl, ← hj]
  simp [ivs, hl]
theorem src_decs {w : World} {B : Nat} {A : Option Addr} {ds : List (Int × Int)} (h : Decs w B A ds) : Src w A (dvs ds) := fun hp => by
  rw [dvs_len] at hp
  obtain ⟨b, off, rfl, _, hc⟩ := h (by omega)
  refine ⟨_, rfl, fun j u hj => ?_⟩
  have hl : j / 2 < ds.length := by
    have := (List.getElem?_eq_some_iff.1 hj).1
    rw [dvs_len] at this
    omega
  rw [addr_add, ← hj]
  obtain ⟨h1, h2⟩ := hc (j / 2) hl
  obtain ⟨g1, g2⟩ := dvs_get ds (j / 2) hl
  rcases Nat.mod_two_eq_zero_or_one j with h0 | h0
  · rw [show j / 2 * 2 = j by omega] at h1 g1
    rw [h1, g1]
  · rw [show off + j / 2 * 2 + 1 = off + j by omega] at h2
    rw [show j / 2 * 2 + 1 = j by omega] at g2
    rw [h2, g2]
theorem ivs_app (a b : List Int) : ivs (a ++ b) = ivs a ++ ivs b := by simp [ivs]
theorem dvs_app (a b : List (Int × Int)) : dvs (a ++ b) = dvs a ++ dvs b := by simp [dvs]
theorem ownsRow_grow {w w' : World} {base size n : Nat} {t : TypeId} {v : Value} {vals : List Value} (ho : w.ownsRow base t size v n vals) (hg : Grow w w') : w'.ownsRow base t size v n vals :=
  ⟨ho.1, by
    rcases ho.2 with h0 | ⟨g', cap', cur, hv, hbg, hgg, rest⟩
    · exact .inl h0
    · exact .inr ⟨g', cap', cur, hv, hbg, (hg.block g' (heap_lt hgg)).trans hgg, rest⟩⟩

theorem run_append_empty (t ty e : TypeId) (i : TypeInfo) (ht : Tryz.prog.underlying t = some (.slice e)) (hi : Tryz.prog.info? e = some i) (w : World) (B size n : Nat) (v : Value) (xs : List Value)
    (hv : w.ownsRow B e size v n xs) (A : Option Addr) (c : Nat) :
    (Builtin.append_ #[t, t] ty #[v, .slice A 0 c]).run Tryz.prog w = .ok v w := by
  rcases hv.2 with ⟨rfl, rfl⟩ | ⟨g, cap, cur, rfl, _, _, hnc, _⟩
  · cases A <;> simp [Builtin.append_, run_underlying ht, sizeOf, typeInfo, hi, Builtin.lenOf, Builtin.firstCells, loadCells, loadCellsFrom, storeCells]
  · cases A <;> simp [Builtin.append_, run_underlying ht, sizeOf, typeInfo, hi, Builtin.lenOf, Builtin.firstCells, loadCells, loadCellsFrom, storeCells, hnc]
theorem run_append_any (w : World) (B : Nat) (t ty e : TypeId) (i : TypeInfo) (z : Value) (size bytes : Nat) (ht : Tryz.prog.underlying t = some (.slice e)) (hi : Tryz.prog.info? e = some i) (hz : i.zero = some z)
    (hsize : i.size = size) (hby : i.bytes = bytes) (hzs : z.cells.size = size) (hsz : 0 < size) (v : Value) (n : Nat) (xs : List Value) (hown : w.ownsRow B e size v n xs)
    (A : Option Addr) (m c : Nat) (news : List Value) (hl : news.length = m * size) (hsrc : Src w A news) (h1 : Ones news) (hb : (n + m) * bytes ≤ 140737488355328) (hb2 : n + m ≤ 1000000000) (hB : B ≤ w.heap.size) :
    ∃ v' w', (Builtin.append_ #[t, t] ty #[v, .slice A m c]).run Tryz.prog w = .ok v' w' ∧ w'.ownsRow B e size v' (n + m) (xs ++ news) ∧ Below B w w' := by
  by_cases h0 : m = 0
  · subst h0
    have hn0 : news = [] := List.eq_nil_of_length_eq_zero (by omega)
    subst hn0
    exact ⟨v, w, run_append_empty t ty e i ht hi w B size n v xs hown A c, by simpa using hown, Below.refl _ _⟩
  · obtain ⟨ad, rfl, hc⟩ := hsrc (by rw [hl]; exact Nat.mul_pos (by omega) hsz)
    obtain ⟨v', w', hr, h2, h3, _, h5⟩ := run_append_own_at (P := Tryz.prog) w B t ty e i z size bytes ht hi hz hsize hby hzs hsz v n xs hown ad m c news hl hc h1 (by unfold maxLen; omega) hb hB
    exact ⟨v', w', hr, h2, Below.grown (Below.refl _ _) h3 hB (fun g hg => (hown.lt g hg).1)⟩

/-- whole numbers of one's own, exact ones of one's own -/
def OwnI (B : Nat) (v : Value) (xs : List Int) (w : World) : Prop := w.ownsRow B 3 1 v xs.length (ivs xs)
def OwnD (B : Nat) (v : Value) (ds : List (Int × Int)) (w : World) : Prop := w.ownsRow B 28 2 v ds.length (dvs ds)
theorem ownI_nil (B : Nat) (w : World) : OwnI B (.slice none 0 0) [] w := World.ownsRow_nil _ _ _ _
theorem ownD_nil (B : Nat) (w : World) : OwnD B (.slice none 0 0) [] w := World.ownsRow_nil _ _ _ _
theorem OwnI.grow {B : Nat} {v : Value} {xs : List Int} {w w' : World} (h : OwnI B v xs w) (hg : Grow w w') : OwnI B v xs w' := ownsRow_grow h hg
theorem OwnD.grow {B : Nat} {v : Value} {ds : List (Int × Int)} {w w' : World} (h : OwnD B v ds w) (hg : Grow w w') : OwnD B v ds w' := ownsRow_grow h hg
theorem own_at {w : World} {B size n : Nat} {e : TypeId} {v : Value} {xs : List Value} (h : w.ownsRow B e size v n xs) :
    ∃ A c, v = .slice A n c ∧ n ≤ c ∧ (A = none → c = 0) ∧ (0 < n → ∃ g, A = some ⟨g, 0, none⟩ ∧ B ≤ g ∧ g < w.heap.size ∧ ∀ j u, xs[j]? = some u → w.cell? ⟨g, j, none⟩ = some u) := by
  rcases h.2 with ⟨rfl, rfl⟩ | ⟨g, cap, cur, rfl, hbg, hgg, hnc, hcm, hsz, htake⟩
  · exact ⟨none, 0, rfl, Nat.le_refl _, fun _ => rfl, fun h => absurd h (Nat.lt_irrefl _)⟩
  · refine ⟨some ⟨g, 0, none⟩, cap, rfl, hnc, (fun e => by cases e), fun _ => ⟨g, rfl, hbg, heap_lt hgg, fun j u hj => ?_⟩⟩
    have hjl : j < n * size := by
      have := (List.getElem?_eq_some_iff.1 hj).1
      rw [h.1] at this
      exact this
    rw [cell_of_row w g j cur _ (0, 0) hgg, ← hj, ← htake, List.getElem?_take, if_pos hjl, Array.getElem?_toList]
theorem OwnI.nums {B : Nat} {v : Value} {xs : List Int} {w : World} (h : OwnI B v xs w) : ∃ A c, v = .slice A xs.length c ∧ xs.length ≤ c ∧ Nums .i64 w w.heap.size A xs := by
  obtain ⟨A, c, rfl, hc, _, hg⟩ := own_at h
  refine ⟨A, c, rfl, hc, fun hp => ?_⟩
  obtain ⟨g, rfl, h1, h2, h3⟩ := hg hp
  refine ⟨g, 0, rfl, h2, fun i hi => ?_⟩
  rw [Nat.zero_add]
  exact h3 i _ (by simp [ivs, hi])
theorem OwnD.decs {B : Nat} {v : Value} {ds : List (Int × Int)} {w : World} (h : OwnD B v ds w) : ∃ A c, v = .slice A ds.length c ∧ ds.length ≤ c ∧ Decs w w.heap.size A ds := by
  obtain ⟨A, c, rfl, hc, _, hg⟩ := own_at h
  refine ⟨A, c, rfl, hc, fun hp => ?_⟩
  obtain ⟨g, rfl, h1, h2, h3⟩ := hg hp
  refine ⟨g, 0, rfl, h2, fun i hi => ?_⟩
  obtain ⟨k1, k2⟩ := dvs_get ds i hi
  rw [Nat.zero_add]
  exact ⟨h3 _ _ k1, h3 _ _ k2⟩
/-- a row of no cells is one's own -/
theorem own_empty (w : World) (t e : TypeId) (size : Nat) : (w.alloc (.cells #[] e)).ownsRow w.heap.size e size (.slice (some ⟨w.heap.size, 0, none⟩) 0 0) 0 [] :=
  ⟨by simp, .inr ⟨w.heap.size, 0, #[], rfl, Nat.le_refl _, heap_alloc_new w _, Nat.le_refl _, by decide, by simp, by simp⟩⟩

theorem wp_more_ints {o : Oper} {a : Act} {w : World} {K : Act → World → Prop} {Q : Exit → Act → World → Prop} (s x : Operand)
    (ho : o.op = .call { callee := .builtin .append, args := #[s, x], argTypes := #[22, 22] }) (B : Nat) (v : Value) (xs : List Int) (A : Option Addr) (m c : Nat) (ys : List Int)
    (hs : a.eval s = v) (hown : OwnI B v xs w) (hx : a.eval x = .slice A m c) (hm : ys.length = m) (hys : Nums .i64 w w.heap.size A ys) (hb : xs.length + m ≤ 1000000000) (hB : B ≤ w.heap.size)
    (h : ∀ v' w', Hid (OwnI B v' (xs ++ ys) w') → Hid (Below B w w') → K (a.put o.dst v') w') : o.wp Tryz.prog a w K Q := by
  obtain ⟨i0, hi, hz0, hz1, hz2⟩ := info_of info_int
  subst hm
  obtain ⟨v', w', hr, h2, h3⟩ := run_append_any w B 22 o.type 3 i0 _ 1 8 Tryz.underlying22 hi hz0 hz1 hz2 rfl (by decide) v xs.length (ivs xs) hown A ys.length c (ivs ys) (ivs_len ys) (src_nums hys) (ivs_one ys) (by omega) hb hB
  unfold Oper.wp
  simp [execOp, ho, resolve, invoke, builtin, hs, hx, hr, Result.andThen]
  exact h v' w' (Lib.hid (by rw [← ivs_app] at h2; rw [← List.length_append] at h2; exact h2)) (Lib.hid h3)
theorem wp_more_decs {o : Oper} {a : Act} {w : World} {K : Act → World → Prop} {Q : Exit → Act → World → Prop} (s x : Operand)
    (ho : o.op = .call { callee := .builtin .append, args := #[s, x], argTypes := #[23, 23] }) (B : Nat) (v : Value) (xs : List (Int × Int)) (A : Option Addr) (m c : Nat) (ys : List (Int × Int))
    (hs : a.eval s = v) (hown : OwnD B v xs w) (hx : a.eval x = .slice A m c) (hm : ys.length = m) (hys : Decs w w.heap.size A ys) (hb : xs.length + m ≤ 1000000000) (hB : B ≤ w.heap.size)
    (h : ∀ v' w', Hid (OwnD B v' (xs ++ ys) w') → Hid (Below B w w') → K (a.put o.dst v') w') : o.wp Tryz.prog a w K Q := by
  obtain ⟨i0, hi, hz0, hz1, hz2⟩ := info_of info_dec
  subst hm
  obtain ⟨v', w', hr, h2, h3⟩ := run_append_any w B 23 o.type 28 i0 _ 2 16 Tryz.underlying23 hi hz0 hz1 hz2 rfl (by decide) v xs.length (dvs xs) hown A ys.length c (dvs ys) (dvs_len ys) (src_decs hys) (dvs_one ys) (by omega) hb hB
  unfold Oper.wp
  simp [execOp, ho, resolve, invoke, builtin, hs, hx, hr, Result.andThen]
  exact h v' w' (Lib.hid (by rw [← dvs_app] at h2; rw [← List.length_append] at h2; exact h2)) (Lib.hid h3)
theorem wpList_more_ints {ops : Array Oper} {rest : List Oper} {o : Oper} {a : Act} {w : World} {Q : Exit → Act → World → Prop} (hgd : o.guard = none) (s x : Operand)
    (ho : o.op = .call { callee := .builtin .append, args := #[s, x], argTypes := #[22, 22] }) (B : Nat) (v : Value) (xs : List Int) (A : Option Addr) (m c : Nat) (ys : List Int)
    (hs : a.eval s = v) (hown : OwnI B v xs w) (hx : a.eval x = .slice A m c) (hm : ys.length = m) (hys : Nums .i64 w w.heap.size A ys) (hb : xs.length + m ≤ 1000000000) (hB : B ≤ w.heap.size)
    (h : ∀ v' w', Hid (OwnI B v' (xs ++ ys) w') → Hid (Below B w w') → wpList Tryz.prog ops Q rest (a.put o.dst v') w') : wpList Tryz.prog ops Q (o :: rest) a w :=
  wpList_plain hgd fun K hK => wp_more_ints s x ho B v xs A m c ys hs hown hx hm hys hb hB fun v' w' h1 h2 => hK _ _ (h v' w' h1 h2)
theorem wpList_more_decs {ops : Array Oper} {rest : List Oper} {o : Oper} {a : Act} {w : World} {Q : Exit → Act → World → Prop} (hgd : o.guard = none) (s x : Operand)
    (ho : o.op = .call { callee := .builtin .append, args := #[s, x], argTypes := #[23, 23] }) (B : Nat) (v : Value) (xs : List (Int × Int)) (A : Option Addr) (m c : Nat) (ys : List (Int × Int))
    (hs : a.eval s = v) (hown : OwnD B v xs w) (hx : a.eval x = .slice A m c) (hm : ys.length = m) (hys : Decs w w.heap.size A ys) (hb : xs.length + m ≤ 1000000000) (hB : B ≤ w.heap.size)
    (h : ∀ v' w', Hid (OwnD B v' (xs ++ ys) w') → Hid (Below B w w') → wpList Tryz.prog ops Q rest (a.put o.dst v') w') : wpList Tryz.prog ops Q (o :: rest) a w :=
  wpList_plain hgd fun K hK => wp_more_decs s x ho B v xs A m c ys hs hown hx hm hys hb hB fun v' w' h1 h2 => hK _ _ (h v' w' h1 h2)
/-- one exact number in new memory -/
theorem decs_cells {w : World} {g : Nat} {t : TypeId} {ds : List (Int × Int)} (h : w.heap[g]? = some (.cells (dvs ds).toArray t (0, 0))) : Decs w w.heap.size (some ⟨g, 0, none⟩) ds := fun hp =>
  ⟨g, 0, rfl, heap_lt h, fun i hi => by
    obtain ⟨k1, k2⟩ := dvs_get ds i hi
    rw [Nat.zero_add]
    exact ⟨by rw [cell_of_row w g _ _ t (0, 0) h]; simpa using k1, by rw [cell_of_row w g _ _ t (0, 0) h]; simpa using k2⟩⟩
theorem nums_cells {w : World} {g : Nat} {t : TypeId} {xs : List Int} (h : w.heap[g]? = some (.cells (ivs xs).toArray t (0, 0))) : Nums .i64 w w.heap.size (some ⟨g, 0, none⟩) xs := fun hp =>
  ⟨g, 0, rfl, heap_lt h, fun i hi => by
    rw [Nat.zero_add, cell_of_row w g _ _ t (0, 0) h]
    simp [ivs, hi]⟩
theorem size_alloc (w : World) (o : Obj) : (w.alloc o).heap.size = w.heap.size + 1 := by simp
theorem nums_lit2 (w : World) (o : Obj) (n : Int) (t : TypeId) : Nums .i64 ((w.alloc o).alloc (.cells #[.int .i64 n] t)) ((w.alloc o).alloc (.cells #[.int .i64 n] t)).heap.size (some ⟨w.heap.size + 1, 0, none⟩) [n] := by
  have h := nums_cells (xs := [n]) (heap_alloc_new (w.alloc o) (.cells #[.int .i64 n] t))
  rw [size_alloc w o] at h
  exact h
theorem nums_lit1 (w : World) (n : Int) (t : TypeId) : Nums .i64 (w.alloc (.cells #[.int .i64 n] t)) (w.alloc (.cells #[.int .i64 n] t)).heap.size (some ⟨w.heap.size, 0, none⟩) [n] := nums_cells (xs := [n]) (heap_alloc_new w (.cells #[.int .i64 n] t))
theorem decs_lit1 (w : World) (q r : Int) : Decs (w.alloc (.cells #[.int .i64 q, .int .i64 r] 28)) (w.alloc (.cells #[.int .i64 q, .int .i64 r] 28)).heap.size (some ⟨w.heap.size, 0, none⟩) [(q, r)] :=
  decs_cells (ds := [(q, r)]) (heap_alloc_new w _)
theorem dec_eq (a b c d : Int) (n : Nat) (w : World) : (Op.equalIn (n + 2) 28 (.agg #[.int .i64 a, .int .i64 b]) (.agg #[.int .i64 c, .int .i64 d])).run Tryz.prog w = .ok (a == c && b == d) w := by
  rw [run_equalIn_struct w (n + 1) 28 _ _ (by kernel_rfl) (by kernel_rfl)]
  simp only [Program.fieldsOf, Tryz.underlying28]
  simp [Op.eqFields, go_sem]
  by_cases h1 : a = c
  · by_cases h2 : b = d <;> simp [h1, h2]
  · simp [h1]
theorem dec_same (a b : Int) (n : Nat) (w : World) : (Op.equalIn (n + 2) 28 (.agg #[.int .i64 a, .int .i64 b]) (.agg #[.int .i64 a, .int .i64 b])).run Tryz.prog w = .ok true w := by
  rw [dec_eq]; simp
end Go.Proofs.YtkebngldmcoaaaaGreatDoor
