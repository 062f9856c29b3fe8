/-
  Slices of numbers that a call itself has made. Nothing is claimed here by itself.
-/
import Derived.Test.YtbediaeaodjnmaaRowIn
import Derived.Laws.AppendOwnNone
namespace Go.Proofs.Ytbediaeaodjnmaa
open Go.RowKit Go.Lib
set_option linter.unusedSimpArgs false
set_option linter.unusedVariables false

theorem heap_lt {w : World} {g : Nat} {o : Obj} (h : w.heap[g]? = some o) : g < w.heap.size := by
  rcases Nat.lt_or_ge g w.heap.size with k | k
  · exact k
  · rw [Array.getElem?_eq_none k] at h; cases h
def ivs (q : List Int) : List Value := q.map iv
theorem ivs_len (q : List Int) : (ivs q).length = q.length := by simp [ivs]
theorem ivs_app (a b : List Int) : ivs (a ++ b) = ivs a ++ ivs b := by simp [ivs]
theorem ivs_one (l : List Int) : ∀ u ∈ ivs l, u.oneCell' = true := by
  intro u hu
  obtain ⟨c, _, rfl⟩ := List.mem_map.1 hu
  rfl
/-- numbers of one's own -/
def OwnI (B : Nat) (v : Value) (q : List Int) (w : World) : Prop := w.ownsRow B 3 1 v q.length (ivs q)
theorem ownI_nil (B : Nat) (w : World) : OwnI B (.slice none 0 0) [] w := World.ownsRow_nil _ _ _ _
theorem OwnI.grow {B : Nat} {v : Value} {q : List Int} {w w' : World} (h : OwnI B v q w) (hg : Grow w w') : OwnI B v q w' := by
  refine ⟨h.1, ?_⟩
  rcases h.2 with h0 | ⟨g', cap', cur, hv, hbg, hgg, rest⟩
  · exact .inl h0
  · exact .inr ⟨g', cap', cur, hv, hbg, (hg.block g' (heap_lt hgg)).trans hgg, rest⟩
theorem OwnI.base {B B' : Nat} {v : Value} {q : List Int} {w : World} (h : OwnI B v q w) (hB : B' ≤ B) : OwnI B' v q w := by
  refine ⟨h.1, ?_⟩
  rcases h.2 with h0 | ⟨g', cap', cur, hv, hbg, hgg, rest⟩
  · exact .inl h0
  · exact .inr ⟨g', cap', cur, hv, Nat.le_trans hB hbg, hgg, rest⟩
theorem OwnI.nums {B : Nat} {v : Value} {q : List Int} {w : World} (h : OwnI B v q w) : ∃ A c, v = .slice A q.length c ∧ Nums .i64 w w.heap.size A q := by
  rcases h.2 with ⟨rfl, hx⟩ | ⟨g, cap, cur, rfl, hbg, hgg, hnc, _, hsz, htake⟩
  · have : q = [] := List.eq_nil_of_length_eq_zero hx
    subst this
    exact ⟨none, 0, rfl, Nums.none_⟩
  · refine ⟨some ⟨g, 0, none⟩, cap, rfl, fun hp => ⟨g, 0, rfl, heap_lt hgg, fun i hi => ?_⟩⟩
    rw [Nat.zero_add, cell_of_row w g i cur 3 (0, 0) hgg]
    have h1 : (cur.toList.take (q.length * 1))[i]? = (ivs q)[i]? := by rw [htake]
    rw [List.getElem?_take, if_pos (by omega), Array.getElem?_toList] at h1
    rw [h1]
    simp [ivs, iv, hi]
theorem ownI_lit (w : World) (q : List Int) (hq : q.length ≤ 1000000) : OwnI w.heap.size (.slice (some ⟨w.heap.size, 0, none⟩) q.length q.length) q (w.alloc (.cells (q.map iv).toArray 3)) := by
  refine ⟨by simp [ivs], .inr ⟨w.heap.size, q.length, (q.map iv).toArray, rfl, Nat.le_refl _, heap_alloc_new w _, Nat.le_refl _, ?_, by simp, ?_⟩⟩
  · first | (unfold maxLen; omega) | omega | simp
  · simp only [ivs, Nat.mul_one]
    exact List.take_of_length_le (by simp)
theorem nums_news {w : World} {B : Nat} {ad : Addr} {p : List Int} (h : Nums .i64 w B (some ad) p) : ∀ j u, (ivs p)[j]? = some u → w.cell? (ad.add j) = some u := by
  intro j u hu
  have hj : j < p.length := by
    have := (List.getElem?_eq_some_iff.1 hu).1
    rwa [ivs_len] at this
  obtain ⟨b, off, e, _, hc⟩ := h (by omega)
  cases e
  have e : (⟨b, off, none⟩ : Addr).add j = ⟨b, off + j, none⟩ := by unfold Addr.add; split <;> simp_all
  rw [e, hc j hj, ← hu]
  simp [ivs, iv, hj]
theorem nil_of_none {w : World} {B : Nat} {p : List Int} (h : Nums .i64 w B none p) : p = [] := by
  rcases Nat.eq_zero_or_pos p.length with h0 | h0
  · exact List.eq_nil_of_length_eq_zero h0
  · obtain ⟨b, off, e, _⟩ := h h0
    cases e

/-- append of any numbers, none too, behind a row of one's own -/
theorem wpList_append_ints {ops : Array Oper} {rest : List Oper} {o : Oper} {a : Act} {w : World} {Q : Exit → Act → World → Prop} (hgd : o.guard = none) (s x : Operand)
    (ho : o.op = .call { callee := .builtin .append, args := #[s, x], argTypes := #[22, 22] }) (base : Nat) (v : Value) (m c : Nat) (q p : List Int) (A : Option Addr)
    (hs : a.eval s = v) (hown : OwnI base v q w) (hx : a.eval x = .slice A m c) (hm : p.length = m) (hc : A = none → c = 0) (hr : Nums .i64 w w.heap.size A p) (hb : (q.length + m) * 8 ≤ 140737488355328) (hbase : base ≤ w.heap.size)
    (h : ∀ v' w', OwnI base v' (q ++ p) w' → Below base w w' → wpList Try.prog ops Q rest (a.put o.dst v') w') : wpList Try.prog ops Q (o :: rest) a w := by
  obtain ⟨i0, hi, hz0, hz1, hz2⟩ := info_parts i_info3
  subst hm
  cases A with
  | none =>
    have hp := nil_of_none hr
    have hc0 := hc rfl
    subst hp hc0
    refine wpList_append_own_none hgd s x 22 ho base 3 i0 1 Try.underlying22 hi v q.length (ivs q) hs hown hx (h v w ?_ (Below.refl _ _))
    rw [List.append_nil]
    exact hown
  | some ad =>
    refine wpList_append_own w hgd s x 22 ho base 3 i0 (.int .i64 0) 1 8 Try.underlying22 hi hz0 hz1 hz2 rfl (by decide) v q.length (ivs q) hs hown ad p.length c (ivs p) hx (by rw [ivs_len]; omega) (nums_news hr) (ivs_one p) (by unfold maxLen; omega) (by omega) hbase ?_
    intro v' w' hown' hgrow _
    refine h v' w' ?_ (Below.grown (Below.refl _ _) hgrow hbase (fun g hg => (hown.lt g hg).1))
    unfold OwnI
    rw [List.length_append, ivs_app]
    exact hown'
end Go.Proofs.Ytbediaeaodjnmaa
