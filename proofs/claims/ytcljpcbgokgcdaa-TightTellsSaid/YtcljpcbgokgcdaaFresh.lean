/-
  What array.fresh comes to: the row in new memory.
-/
import Derived.Test.YtcljpcbgokgcdaaNdMem
import Derived.Test.YtcljpcbgokgcdaaKept
import Derived.Test.YtcljpcbgokgcdaaProg
import Derived.ProofKit
import Derived.WalkKit
import Derived.Laws.CopyRow
import Derived.Laws.CopyOwn
import Derived.Laws.MakeOwn
import Derived.Lib.Hide
import Derived.Lib.SmallJoins
import Derived.OpenShut
namespace Go.Proofs.Ytcljpcbgokgcdaa
open Go.RowKit Go.Lib
set_option linter.unusedSimpArgs false
set_option linter.unusedVariables false

/-- the cells that a slice reads -/
def Src (w : World) (A : Option Addr) (vs : List Value) : Prop := 0 < vs.length → ∃ ad, A = some ad ∧ ∀ j u, vs[j]? = some u → w.cell? (ad.add j) = some u
def Ones (vs : List Value) : Prop := ∀ u ∈ vs, u.oneCell' = true

theorem run_copy_whole {P : Program} (w : World) (t ty e : TypeId) (i : TypeInfo) (size : Nat) (ht : P.underlying t = some (.slice e)) (hi : P.info? e = some i) (hsz : i.size = size) (hpos : 0 < size)
    (g n c : Nat) (A : Option Addr) (cur : Array Value) (te : TypeId) (vs : List Value) (hg : w.heap[g]? = some (.cells cur te (0, 0))) (hv : vs.length = n * size) (hc : cur.size = n * size) (hs : Src w A vs) (h1 : Ones vs) :
    (Builtin.copy_ #[t, t] ty #[.slice (some ⟨g, 0, none⟩) n n, .slice A n c]).run P w = .ok (goInt n) (w.setRow g vs.toArray) := by
  have hst := run_storeCells_at P g 0 te vs 0 cur w hg (by rw [hc, hv]; omega) h1
  have hrow : (cur.toList.take (0 + 0) ++ vs ++ cur.toList.drop (0 + 0 + vs.length)).toArray = vs.toArray := by
    have : cur.toList.drop (0 + 0 + vs.length) = [] := List.drop_eq_nil_of_le (by rw [Array.length_toList, hc, hv]; omega)
    rw [this]; simp
  rw [hrow] at hst
  have hmin : Nat.min n n = n := Nat.min_self n
  cases A with
  | none =>
    have : vs = [] := by
      rcases Nat.eq_zero_or_pos vs.length with h | h
      · exact List.eq_nil_of_length_eq_zero h
      · obtain ⟨ad, e, _⟩ := hs h; cases e
    subst this
    simp [Builtin.copy_, run_underlying ht, Builtin.lenOf, Builtin.firstCells, sizeOf, typeInfo, hi, hsz, hmin, hst]
  | some ad =>
    have hl : (loadCells ad (n * size)).run P w = .ok vs.toArray w := by
      rw [← hv]
      refine run_loadCells_list w ad vs ?_
      intro j u hj
      obtain ⟨ad', e, h⟩ := hs (by have := (List.getElem?_eq_some_iff.1 hj).1; omega)
      cases e
      exact h j u hj
    simp [Builtin.copy_, run_underlying ht, Builtin.lenOf, Builtin.firstCells, sizeOf, typeInfo, hi, hsz, hmin, hl, hst]

theorem wpList_copy_whole {P : Program} {w : World} {ops : Array Oper} {rest : List Oper} {o : Oper} {a : Act} {Q : Exit → Act → World → Prop} (hgd : o.guard = none) (d s : Operand) (t e : TypeId)
    (ho : o.op = .call { callee := .builtin .copy, args := #[d, s], argTypes := #[t, t] }) (i : TypeInfo) (size : Nat) (ht : P.underlying t = some (.slice e)) (hi : P.info? e = some i) (hsz : i.size = size) (hpos : 0 < size)
    (g n c : Nat) (A : Option Addr) (hd : a.eval d = .slice (some ⟨g, 0, none⟩) n n) (hs : a.eval s = .slice A n c) (cur : Array Value) (te : TypeId) (hg : w.heap[g]? = some (.cells cur te (0, 0)))
    (vs : List Value) (hv : vs.length = n * size) (hc : cur.size = n * size) (hsrc : Src w A vs) (h1 : Ones vs)
    (h : ∀ w', Hid (w'.heap[g]? = some (.cells vs.toArray te (0, 0))) → Hid (Below g w w') → Hid (w'.heap.size = w.heap.size) → wpList P ops Q rest (a.put o.dst (goInt n)) w') : wpList P ops Q (o :: rest) a w := by
  refine wpList_plain hgd fun K hK => ?_
  have hrun := run_copy_whole (P := P) w t o.type e i size ht hi hsz hpos g n c A cur te vs hg hv hc hsrc h1
  unfold Oper.wp
  simp [execOp, ho, resolve, invoke, builtin, hd, hs, hrun, Result.andThen]
  exact hK _ _ (h _ (Lib.hid (setRow_heap w g cur _ te _ hg)) (Lib.hid (below_setRow (Below.refl g w) (Nat.le_refl _) _)) (Lib.hid (by simp [World.setRow])))

/-- a new row with these cells -/
def FreshP (t : TypeId) (vs : List Value) (n : Nat) (w : World) (e : Ending) (w' : World) : Prop :=
  e = .returned (.slice (some ⟨w.heap.size, 0, none⟩) n n) ∧ Grow w w' ∧ w'.heap.size = w.heap.size + 1 ∧ w'.heap[w.heap.size]? = some (.cells vs.toArray t (0, 0))

theorem info_of {P : Program} {e : TypeId} {z : Value} {size bytes : Nat} (h : (P.info? e).map (fun i => (i.zero, i.size, i.bytes)) = some (some z, size, bytes)) : ∃ i, P.info? e = some i ∧ i.zero = some z ∧ i.size = size ∧ i.bytes = bytes := by
  obtain ⟨i, hi, hz⟩ := Option.map_eq_some_iff.1 h
  simp only [Prod.mk.injEq] at hz
  exact ⟨i, hi, hz.1, hz.2.1, hz.2.2⟩
theorem make_of {P : Program} {t e : TypeId} {z : Value} {size bytes : Nat} (ht : P.underlying t = some (.slice e)) (h : (P.info? e).map (fun i => (i.zero, i.size, i.bytes)) = some (some z, size, bytes)) (n : Nat) (hb : bytes * n ≤ 281474976710656) (hn : n ≤ 9223372036854775807) :
    ∃ cur : Array Value, cur.size = n * size ∧ ∀ W : World, (Instr.makeSlice t (.int .i64 (n : Nat)) (.int .i64 (n : Nat))).run P W = .ok (.slice (some ⟨W.heap.size, 0, none⟩) n n) (W.alloc (.cells cur e)) := by
  obtain ⟨i, hi, hz, hs, hby⟩ := info_of h
  refine ⟨madeCells z.cells (n * size), size_madeCells _ _, fun W => ?_⟩
  have hb' : (i.bytes : Int) * ((n : Nat) : Int) ≤ 281474976710656 := by
    have h : ((i.bytes * n : Nat) : Int) ≤ 281474976710656 := by rw [hby]; omega
    rwa [Int.natCast_mul] at h
  have hr := run_make (P := P) W t e i z ht hi hz .i64 .i64 n n (by omega) (Int.le_refl _) hb' (by omega)
  simp only [Int.toNat_natCast, hs] at hr
  exact hr
theorem info_int : (Try.prog.info? 3).map (fun i => (i.zero, i.size, i.bytes)) = some (some (.int .i64 0), 1, 8) := by kernel_rfl
theorem info_dec : (Try.prog.info? 42).map (fun i => (i.zero, i.size, i.bytes)) = some (some (.agg #[.int .i64 0, .int .i64 0]), 2, 16) := by kernel_rfl
theorem info_node : (Try.prog.info? 30).map (fun i => (i.zero, i.size, i.bytes)) = some (some (.agg #[.int .i64 0, .slice none 0 0, .slice none 0 0, .slice none 0 0]), 4, 80) := by kernel_rfl
theorem info_row : (Try.prog.info? 22).map (fun i => (i.zero, i.size, i.bytes)) = some (some (.slice none 0 0), 1, 24) := by kernel_rfl

set_option maxRecDepth 10000 in
theorem freshi_any (A : Option Addr) (n c : Nat) (vs : List Value) (w : World) (hn : n ≤ 1100000) (hv : vs.length = n * 1) (h1 : Ones vs) (hs : Src w A vs) :
    Calls Try.prog 46 #[.slice A n c] w (FreshP 3 vs n w) := by
  obtain ⟨i, hi, _, hsz, _⟩ := info_of info_int
  obtain ⟨cur, hcur, hmk⟩ := make_of (P := Try.prog) Try.underlying23 info_int n (by omega) (by omega)
  have HS : Hid (Src (w.alloc (.cells cur 3)) A vs) := Lib.hid (fun hp => by
    obtain ⟨ad, e, h⟩ := hs hp
    exact ⟨ad, e, fun j u hj => by
      have h0 := h j u hj
      rw [← h0]
      exact (grow_new w (.cells cur 3)).cell (block_lt_of_cell h0)⟩)
  have HV := Lib.hid hv
  have HC := Lib.hid hcur
  have H1 := Lib.hid h1
  clear hs hv hcur h1
  have HN := Lib.hid (heap_alloc_new w (.cells cur 3))
  go_enter Try.func46, Try.ntmps46
  go_wp2_with (refine wpList_copy_whole rfl _ _ 23 3 rfl i 1 Try.underlying23 hi hsz (by decide) w.heap.size n c A rfl rfl cur 3 HN.out vs HV.out HC.out HS.out H1.out ?_; intro w2 HW2 HB2 HZ2)
  go_ret
  exact ⟨rfl, ⟨HB2.out.os, HB2.out.tape, HB2.out.output, by rw [HZ2.out]; simp, fun k hk => (HB2.out.block k hk).trans ((grow_new w (.cells cur 3)).block k hk)⟩, by rw [HZ2.out]; simp, HW2.out⟩

set_option maxRecDepth 10000 in
theorem freshd_any (A : Option Addr) (n c : Nat) (vs : List Value) (w : World) (hn : n ≤ 1100000) (hv : vs.length = n * 2) (h1 : Ones vs) (hs : Src w A vs) :
    Calls Try.prog 47 #[.slice A n c] w (FreshP 42 vs n w) := by
  obtain ⟨i, hi, _, hsz, _⟩ := info_of info_dec
  obtain ⟨cur, hcur, hmk⟩ := make_of (P := Try.prog) Try.underlying24 info_dec n (by omega) (by omega)
  have HS : Hid (Src (w.alloc (.cells cur 42)) A vs) := Lib.hid (fun hp => by
    obtain ⟨ad, e, h⟩ := hs hp
    exact ⟨ad, e, fun j u hj => by
      have h0 := h j u hj
      rw [← h0]
      exact (grow_new w (.cells cur 42)).cell (block_lt_of_cell h0)⟩)
  have HV := Lib.hid hv
  have HC := Lib.hid hcur
  have H1 := Lib.hid h1
  clear hs hv hcur h1
  have HN := Lib.hid (heap_alloc_new w (.cells cur 42))
  go_enter Try.func47, Try.ntmps47
  go_wp2_with (refine wpList_copy_whole rfl _ _ 24 42 rfl i 2 Try.underlying24 hi hsz (by decide) w.heap.size n c A rfl rfl cur 42 HN.out vs HV.out HC.out HS.out H1.out ?_; intro w2 HW2 HB2 HZ2)
  go_ret
  exact ⟨rfl, ⟨HB2.out.os, HB2.out.tape, HB2.out.output, by rw [HZ2.out]; simp, fun k hk => (HB2.out.block k hk).trans ((grow_new w (.cells cur 42)).block k hk)⟩, by rw [HZ2.out]; simp, HW2.out⟩

set_option maxRecDepth 10000 in
theorem freshn_any (A : Option Addr) (n c : Nat) (vs : List Value) (w : World) (hn : n ≤ 1100000) (hv : vs.length = n * 4) (h1 : Ones vs) (hs : Src w A vs) :
    Calls Try.prog 45 #[.slice A n c] w (FreshP 30 vs n w) := by
  obtain ⟨i, hi, _, hsz, _⟩ := info_of info_node
  obtain ⟨cur, hcur, hmk⟩ := make_of (P := Try.prog) Try.underlying22 info_node n (by omega) (by omega)
  have HS : Hid (Src (w.alloc (.cells cur 30)) A vs) := Lib.hid (fun hp => by
    obtain ⟨ad, e, h⟩ := hs hp
    exact ⟨ad, e, fun j u hj => by
      have h0 := h j u hj
      rw [← h0]
      exact (grow_new w (.cells cur 30)).cell (block_lt_of_cell h0)⟩)
  have HV := Lib.hid hv
  have HC := Lib.hid hcur
  have H1 := Lib.hid h1
  clear hs hv hcur h1
  have HN := Lib.hid (heap_alloc_new w (.cells cur 30))
  go_enter Try.func45, Try.ntmps45
  go_wp2_with (refine wpList_copy_whole rfl _ _ 22 30 rfl i 4 Try.underlying22 hi hsz (by decide) w.heap.size n c A rfl rfl cur 30 HN.out vs HV.out HC.out HS.out H1.out ?_; intro w2 HW2 HB2 HZ2)
  go_ret
  exact ⟨rfl, ⟨HB2.out.os, HB2.out.tape, HB2.out.output, by rw [HZ2.out]; simp, fun k hk => (HB2.out.block k hk).trans ((grow_new w (.cells cur 30)).block k hk)⟩, by rw [HZ2.out]; simp, HW2.out⟩
end Go.Proofs.Ytcljpcbgokgcdaa
