/-
  Whole numbers in memory: slices that read as lists, and rows of one's own. Nothing is claimed here by itself.
-/
import Derived.Test.YthmhpjjpjgmdaaaDoorBox
import Derived.Test.YthmhpjjpjgmdaaaDoorProg
import Derived.ProofKit
import Derived.WalkKit
import Derived.Laws.CopyOwn
import Derived.Laws.MakeOwn
import Derived.Laws.AppendOwnNone
import Derived.ArgAppend
import Derived.Maps.AppendAt
import Derived.Lib.Hide
import Derived.Lib.SmallJoins
import Derived.OpenShut
namespace Go.Proofs.YthmhpjjpjgmdaaaDoor
open Go.RowKit Go.Lib
set_option linter.unusedSimpArgs false
set_option linter.unusedVariables false

theorem heap_lt {w : World} {b : Nat} {o : Obj} (h : w.heap[b]? = some o) : b < w.heap.size := (Array.getElem?_eq_some_iff.1 h).1
def ivs (xs : List Int) : List Value := xs.map fun x => .int .i64 x
/-- the cells that a slice reads -/
def Src (w : World) (A : Option Addr) (vs : List Value) : Prop := 0 < vs.length → ∃ ad, A = some ad ∧ ∀ j u, vs[j]? = some u → w.cell? (ad.add j) = some u
def Ones (vs : List Value) : Prop := ∀ u ∈ vs, u.oneCell' = true
theorem info_of {P : Program} {e : TypeId} {z : Value} {size bytes : Nat} (h : (P.info? e).map (fun i => (i.zero, i.size, i.bytes)) = some (some z, size, bytes)) : ∃ i, P.info? e = some i ∧ i.zero = some z ∧ i.size = size ∧ i.bytes = bytes := by
  obtain ⟨i, hi, hz⟩ := Option.map_eq_some_iff.1 h
  simp only [Prod.mk.injEq] at hz
  exact ⟨i, hi, hz.1, hz.2.1, hz.2.2⟩
theorem make_of {P : Program} {t e : TypeId} {z : Value} {size bytes : Nat} (ht : P.underlying t = some (.slice e)) (h : (P.info? e).map (fun i => (i.zero, i.size, i.bytes)) = some (some z, size, bytes)) (n : Nat) (hb : bytes * n ≤ 281474976710656) (hn : n ≤ 9223372036854775807) :
    ∃ cur : Array Value, cur.size = n * size ∧ ∀ W : World, (Instr.makeSlice t (.int .i64 (n : Nat)) (.int .i64 (n : Nat))).run P W = .ok (.slice (some ⟨W.heap.size, 0, none⟩) n n) (W.alloc (.cells cur e)) := by
  obtain ⟨i, hi, hz, hs, hby⟩ := info_of h
  refine ⟨madeCells z.cells (n * size), size_madeCells _ _, fun W => ?_⟩
  have hb' : (i.bytes : Int) * ((n : Nat) : Int) ≤ 281474976710656 := by
    have h : ((i.bytes * n : Nat) : Int) ≤ 281474976710656 := by rw [hby]; omega
    rwa [Int.natCast_mul] at h
  have hr := run_make (P := P) W t e i z ht hi hz .i64 .i64 n n (by omega) (Int.le_refl _) hb' (by omega)
  simp only [Int.toNat_natCast, hs] at hr
  exact hr
theorem info_int : (Tryd.prog.info? 3).map (fun i => (i.zero, i.size, i.bytes)) = some (some (.int .i64 0), 1, 8) := by kernel_rfl
theorem info_str : (Tryd.prog.info? 9).map (fun i => (i.zero, i.size, i.bytes)) = some (some (.string ⟨#[]⟩), 1, 16) := by kernel_rfl
theorem ivs_len (xs : List Int) : (ivs xs).length = xs.length * 1 := by simp [ivs]
theorem ivs_one (xs : List Int) : Ones (ivs xs) := fun u hu => by
  obtain ⟨x, _, rfl⟩ := List.mem_map.1 hu
  rfl
theorem addr_add (b off j : Nat) : (⟨b, off, none⟩ : Addr).add j = ⟨b, off + j, none⟩ := by unfold Addr.add; split <;> simp_all
theorem src_nums {w : World} {B : Nat} {A : Option Addr} {xs : List Int} (h : Nums .i64 w B A xs) : Src w A (ivs xs) := fun hp => by
  rw [ivs_len, Nat.mul_one] at hp
  obtain ⟨b, off, rfl, _, hc⟩ := h hp
  refine ⟨_, rfl, fun j u hj => ?_⟩
  have hl : j < xs.length := by
    have := (List.getElem?_eq_some_iff.1 hj).1
    rw [ivs_len] at this
    omega
  rw [addr_add, hc j hl, ← hj]
  simp [ivs, hl]
theorem ivs_app (a b : List Int) : ivs (a ++ b) = ivs a ++ ivs b := by simp [ivs]
theorem ownsRow_grow {w w' : World} {base size n : Nat} {t : TypeId} {v : Value} {vals : List Value} (ho : w.ownsRow base t size v n vals) (hg : Grow w w') : w'.ownsRow base t size v n vals :=
  ⟨ho.1, by
    rcases ho.2 with h0 | ⟨g', cap', cur, hv, hbg, hgg, rest⟩
    · exact .inl h0
    · exact .inr ⟨g', cap', cur, hv, hbg, (hg.block g' (heap_lt hgg)).trans hgg, rest⟩⟩

theorem run_append_empty (t ty e : TypeId) (i : TypeInfo) (ht : Tryd.prog.underlying t = some (.slice e)) (hi : Tryd.prog.info? e = some i) (w : World) (B size n : Nat) (v : Value) (xs : List Value)
    (hv : w.ownsRow B e size v n xs) (A : Option Addr) (c : Nat) :
    (Builtin.append_ #[t, t] ty #[v, .slice A 0 c]).run Tryd.prog w = .ok v w := by
  rcases hv.2 with ⟨rfl, rfl⟩ | ⟨g, cap, cur, rfl, _, _, hnc, _⟩
  · cases A <;> simp [Builtin.append_, run_underlying ht, sizeOf, typeInfo, hi, Builtin.lenOf, Builtin.firstCells, loadCells, loadCellsFrom, storeCells]
  · cases A <;> simp [Builtin.append_, run_underlying ht, sizeOf, typeInfo, hi, Builtin.lenOf, Builtin.firstCells, loadCells, loadCellsFrom, storeCells, hnc]
theorem run_append_any (w : World) (B : Nat) (t ty e : TypeId) (i : TypeInfo) (z : Value) (size bytes : Nat) (ht : Tryd.prog.underlying t = some (.slice e)) (hi : Tryd.prog.info? e = some i) (hz : i.zero = some z)
    (hsize : i.size = size) (hby : i.bytes = bytes) (hzs : z.cells.size = size) (hsz : 0 < size) (v : Value) (n : Nat) (xs : List Value) (hown : w.ownsRow B e size v n xs)
    (A : Option Addr) (m c : Nat) (news : List Value) (hl : news.length = m * size) (hsrc : Src w A news) (h1 : Ones news) (hb : (n + m) * bytes ≤ 140737488355328) (hb2 : n + m ≤ 1000000000) (hB : B ≤ w.heap.size) :
    ∃ v' w', (Builtin.append_ #[t, t] ty #[v, .slice A m c]).run Tryd.prog w = .ok v' w' ∧ w'.ownsRow B e size v' (n + m) (xs ++ news) ∧ Below B w w' := by
  by_cases h0 : m = 0
  · subst h0
    have hn0 : news = [] := List.eq_nil_of_length_eq_zero (by omega)
    subst hn0
    exact ⟨v, w, run_append_empty t ty e i ht hi w B size n v xs hown A c, by simpa using hown, Below.refl _ _⟩
  · obtain ⟨ad, rfl, hc⟩ := hsrc (by rw [hl]; exact Nat.mul_pos (by omega) hsz)
    obtain ⟨v', w', hr, h2, h3, _, h5⟩ := run_append_own_at (P := Tryd.prog) w B t ty e i z size bytes ht hi hz hsize hby hzs hsz v n xs hown ad m c news hl hc h1 (by unfold maxLen; omega) hb hB
    exact ⟨v', w', hr, h2, Below.grown (Below.refl _ _) h3 hB (fun g hg => (hown.lt g hg).1)⟩

/-- whole numbers of one's own -/
def OwnI (B : Nat) (v : Value) (xs : List Int) (w : World) : Prop := w.ownsRow B 3 1 v xs.length (ivs xs)
theorem ownI_nil (B : Nat) (w : World) : OwnI B (.slice none 0 0) [] w := World.ownsRow_nil _ _ _ _
theorem OwnI.grow {B : Nat} {v : Value} {xs : List Int} {w w' : World} (h : OwnI B v xs w) (hg : Grow w w') : OwnI B v xs w' := ownsRow_grow h hg
theorem own_at {w : World} {B size n : Nat} {e : TypeId} {v : Value} {xs : List Value} (h : w.ownsRow B e size v n xs) :
    ∃ A c, v = .slice A n c ∧ n ≤ c ∧ (A = none → c = 0) ∧ (0 < n → ∃ g, A = some ⟨g, 0, none⟩ ∧ B ≤ g ∧ g < w.heap.size ∧ ∀ j u, xs[j]? = some u → w.cell? ⟨g, j, none⟩ = some u) := by
  rcases h.2 with ⟨rfl, rfl⟩ | ⟨g, cap, cur, rfl, hbg, hgg, hnc, hcm, hsz, htake⟩
  · exact ⟨none, 0, rfl, Nat.le_refl _, fun _ => rfl, fun h => absurd h (Nat.lt_irrefl _)⟩
  · refine ⟨some ⟨g, 0, none⟩, cap, rfl, hnc, (fun e => by cases e), fun _ => ⟨g, rfl, hbg, heap_lt hgg, fun j u hj => ?_⟩⟩
    have hjl : j < n * size := by
      have := (List.getElem?_eq_some_iff.1 hj).1
      rw [h.1] at this
      exact this
    rw [cell_of_row w g j cur _ (0, 0) hgg, ← hj, ← htake, List.getElem?_take, if_pos hjl, Array.getElem?_toList]
theorem OwnI.nums {B : Nat} {v : Value} {xs : List Int} {w : World} (h : OwnI B v xs w) : ∃ A c, v = .slice A xs.length c ∧ xs.length ≤ c ∧ Nums .i64 w w.heap.size A xs := by
  obtain ⟨A, c, rfl, hc, _, hg⟩ := own_at h
  refine ⟨A, c, rfl, hc, fun hp => ?_⟩
  obtain ⟨g, rfl, h1, h2, h3⟩ := hg hp
  refine ⟨g, 0, rfl, h2, fun i hi => ?_⟩
  rw [Nat.zero_add]
  exact h3 i _ (by simp [ivs, hi])
/-- a row of no cells is one's own -/
theorem own_empty (w : World) (t e : TypeId) (size : Nat) : (w.alloc (.cells #[] e)).ownsRow w.heap.size e size (.slice (some ⟨w.heap.size, 0, none⟩) 0 0) 0 [] :=
  ⟨by simp, .inr ⟨w.heap.size, 0, #[], rfl, Nat.le_refl _, heap_alloc_new w _, Nat.le_refl _, by decide, by simp, by simp⟩⟩

theorem wp_more_ints {o : Oper} {a : Act} {w : World} {K : Act → World → Prop} {Q : Exit → Act → World → Prop} (s x : Operand)
    (ho : o.op = .call { callee := .builtin .append, args := #[s, x], argTypes := #[22, 22] }) (B : Nat) (v : Value) (xs : List Int) (A : Option Addr) (m c : Nat) (ys : List Int)
    (hs : a.eval s = v) (hown : OwnI B v xs w) (hx : a.eval x = .slice A m c) (hm : ys.length = m) (hys : Nums .i64 w w.heap.size A ys) (hb : xs.length + m ≤ 1000000000) (hB : B ≤ w.heap.size)
    (h : ∀ v' w', Hid (OwnI B v' (xs ++ ys) w') → Hid (Below B w w') → K (a.put o.dst v') w') : o.wp Tryd.prog a w K Q := by
  obtain ⟨i0, hi, hz0, hz1, hz2⟩ := info_of info_int
  subst hm
  obtain ⟨v', w', hr, h2, h3⟩ := run_append_any w B 22 o.type 3 i0 _ 1 8 Tryd.underlying22 hi hz0 hz1 hz2 rfl (by decide) v xs.length (ivs xs) hown A ys.length c (ivs ys) (ivs_len ys) (src_nums hys) (ivs_one ys) (by omega) hb hB
  unfold Oper.wp
  simp [execOp, ho, resolve, invoke, builtin, hs, hx, hr, Result.andThen]
  exact h v' w' (Lib.hid (by rw [← ivs_app] at h2; rw [← List.length_append] at h2; exact h2)) (Lib.hid h3)
theorem wpList_more_ints {ops : Array Oper} {rest : List Oper} {o : Oper} {a : Act} {w : World} {Q : Exit → Act → World → Prop} (hgd : o.guard = none) (s x : Operand)
    (ho : o.op = .call { callee := .builtin .append, args := #[s, x], argTypes := #[22, 22] }) (B : Nat) (v : Value) (xs : List Int) (A : Option Addr) (m c : Nat) (ys : List Int)
    (hs : a.eval s = v) (hown : OwnI B v xs w) (hx : a.eval x = .slice A m c) (hm : ys.length = m) (hys : Nums .i64 w w.heap.size A ys) (hb : xs.length + m ≤ 1000000000) (hB : B ≤ w.heap.size)
    (h : ∀ v' w', Hid (OwnI B v' (xs ++ ys) w') → Hid (Below B w w') → wpList Tryd.prog ops Q rest (a.put o.dst v') w') : wpList Tryd.prog ops Q (o :: rest) a w :=
  wpList_plain hgd fun K hK => wp_more_ints s x ho B v xs A m c ys hs hown hx hm hys hb hB fun v' w' h1 h2 => hK _ _ (h v' w' h1 h2)
/-- numbers in new memory -/
theorem nums_cells {w : World} {g : Nat} {t : TypeId} {xs : List Int} (h : w.heap[g]? = some (.cells (ivs xs).toArray t (0, 0))) : Nums .i64 w w.heap.size (some ⟨g, 0, none⟩) xs := fun hp =>
  ⟨g, 0, rfl, heap_lt h, fun i hi => by
    rw [Nat.zero_add, cell_of_row w g _ _ t (0, 0) h]
    simp [ivs, hi]⟩
theorem size_alloc (w : World) (o : Obj) : (w.alloc o).heap.size = w.heap.size + 1 := by simp
theorem nums_lit2 (w : World) (o : Obj) (n : Int) (t : TypeId) : Nums .i64 ((w.alloc o).alloc (.cells #[.int .i64 n] t)) ((w.alloc o).alloc (.cells #[.int .i64 n] t)).heap.size (some ⟨w.heap.size + 1, 0, none⟩) [n] := by
  have h := nums_cells (xs := [n]) (heap_alloc_new (w.alloc o) (.cells #[.int .i64 n] t))
  rw [size_alloc w o] at h
  exact h
theorem nums_lit1 (w : World) (n : Int) (t : TypeId) : Nums .i64 (w.alloc (.cells #[.int .i64 n] t)) (w.alloc (.cells #[.int .i64 n] t)).heap.size (some ⟨w.heap.size, 0, none⟩) [n] := nums_cells (xs := [n]) (heap_alloc_new w (.cells #[.int .i64 n] t))
end Go.Proofs.YthmhpjjpjgmdaaaDoor
