/-
  Slices of texts that a call itself has made. Nothing is claimed here by itself.
-/
import Derived.Test.YtcnijmmpkahoaaaDoorBasics
import Derived.ArgAppend
import Derived.Maps.AppendAt
namespace Go.Proofs.YtcnijmmpkahoaaaDoor
open Go.RowKit Go.Lib
set_option linter.unusedSimpArgs false
set_option linter.unusedVariables false

theorem info9 : (Tryd.prog.info? 9).map (fun i => (i.zero, i.size, i.bytes)) = some (some (.string ⟨#[]⟩), 1, 16) := by kernel_rfl
def cellsS (ls : List (List UInt8)) : List Value := ls.map strv
theorem cellsS_len (ls : List (List UInt8)) : (cellsS ls).length = ls.length := by simp [cellsS]
theorem cellsS_app (a b : List (List UInt8)) : cellsS (a ++ b) = cellsS a ++ cellsS b := by simp [cellsS]
theorem cellsS_one (ls : List (List UInt8)) : ∀ u ∈ cellsS ls, u.oneCell' = true := by
  intro u hu
  obtain ⟨c, _, rfl⟩ := List.mem_map.1 hu
  rfl
/-- texts of one's own -/
def OwnS (B : Nat) (v : Value) (ls : List (List UInt8)) (w : World) : Prop := w.ownsRow B 9 1 v ls.length (cellsS ls)
theorem ownS_nil (B : Nat) (w : World) : OwnS B (.slice none 0 0) [] w := World.ownsRow_nil _ _ _ _
theorem OwnS.grow {B : Nat} {v : Value} {ls : List (List UInt8)} {w w' : World} (h : OwnS B v ls w) (hg : Grow w w') : OwnS B v ls w' := by
  refine ⟨h.1, ?_⟩
  rcases h.2 with h0 | ⟨g', cap', cur, hv, hbg, hgg, rest⟩
  · exact .inl h0
  · exact .inr ⟨g', cap', cur, hv, hbg, (hg.block g' (heap_lt hgg)).trans hgg, rest⟩
theorem OwnS.strs {B : Nat} {v : Value} {ls : List (List UInt8)} {w : World} (h : OwnS B v ls w) : ∃ A c, v = .slice A ls.length c ∧ Strs w w.heap.size A ls := by
  rcases h.2 with ⟨rfl, hx⟩ | ⟨g, cap, cur, rfl, hbg, hgg, hnc, _, hsz, htake⟩
  · have : ls = [] := List.eq_nil_of_length_eq_zero hx
    subst this
    exact ⟨none, 0, rfl, strs_nil⟩
  · refine ⟨some ⟨g, 0, none⟩, cap, rfl, fun hp => ⟨g, 0, rfl, heap_lt hgg, fun i hi => ?_⟩⟩
    rw [Nat.zero_add, cell_of_row w g i cur 9 (0, 0) hgg]
    have h1 : (cur.toList.take (ls.length * 1))[i]? = (cellsS ls)[i]? := by rw [htake]
    rw [List.getElem?_take, if_pos (by omega), Array.getElem?_toList] at h1
    rw [h1]
    simp [cellsS, strv, hi]
theorem strs_news {w : World} {A : Option Addr} {ls : List (List UInt8)} {b off : Nat} (h : ∀ i, i < ls.length → w.cell? ⟨b, off + i, none⟩ = some (.string ⟨(ls.getD i []).toArray⟩)) :
    ∀ j u, (cellsS ls)[j]? = some u → w.cell? ((⟨b, off, none⟩ : Addr).add j) = some u := by
  intro j u hu
  have hj : j < ls.length := by
    have := (List.getElem?_eq_some_iff.1 hu).1
    rwa [cellsS_len] at this
  have e : (⟨b, off, none⟩ : Addr).add j = ⟨b, off + j, none⟩ := by unfold Addr.add; split <;> simp_all
  rw [e, h j hj, ← hu]
  simp [cellsS, strv, hj]

/-- append of texts, at least one, to a slice of one's own -/
theorem wp_append_strs {o : Oper} {a : Act} {w : World} {K : Act → World → Prop} {Q : Exit → Act → World → Prop} (s x : Operand)
    (ho : o.op = .call { callee := .builtin .append, args := #[s, x], argTypes := #[22, 22] }) (B : Nat) (v : Value) (q p : List (List UInt8)) (A : Option Addr) (m c : Nat)
    (hs : a.eval s = v) (hown : OwnS B v q w) (hx : a.eval x = .slice A m c) (hm : m = p.length) (h0 : 0 < m) (hp : Strs w w.heap.size A p) (hb : q.length + p.length ≤ 1100000) (hbase : B ≤ w.heap.size)
    (h : ∀ v' w', OwnS B v' (q ++ p) w' → Below B w w' → K (a.put o.dst v') w') : o.wp Tryd.prog a w K Q := by
  obtain ⟨i0, hi, hz0, hz1, hz2⟩ := info_parts info9
  subst hm
  obtain ⟨b, off, rfl, _, hc⟩ := hp (by omega)
  obtain ⟨v', w', hr, h2, h3, _, _⟩ := run_append_own_at (P := Tryd.prog) w B 22 o.type 9 i0 (.string ⟨#[]⟩) 1 16 Tryd.underlying22 hi hz0 hz1 hz2 rfl (by decide) v q.length (cellsS q) hown ⟨b, off, none⟩ p.length c (cellsS p) (by rw [cellsS_len]; omega) (strs_news (A := none) hc) (cellsS_one p) (by unfold maxLen; omega) (by omega) hbase
  unfold Oper.wp execOp
  simp only [ho, resolve, invoke, builtin, Sem.run_bind, Sem.run_pure, Result.andThen_ok, List.map_toArray, List.map_cons, List.map_nil, hs, hx, hr]
  refine h v' w' ?_ (Below.grown (Below.refl _ _) h3 hbase (fun g hg => (hown.lt g hg).1))
  unfold OwnS
  rw [List.length_append, cellsS_app]
  exact h2
theorem wpList_append_strs {ops : Array Oper} {rest : List Oper} {o : Oper} {a : Act} {w : World} {Q : Exit → Act → World → Prop} (hgd : o.guard = none) (s x : Operand)
    (ho : o.op = .call { callee := .builtin .append, args := #[s, x], argTypes := #[22, 22] }) (B : Nat) (v : Value) (q p : List (List UInt8)) (A : Option Addr) (m c : Nat)
    (hs : a.eval s = v) (hown : OwnS B v q w) (hx : a.eval x = .slice A m c) (hm : m = p.length) (h0 : 0 < m) (hp : Strs w w.heap.size A p) (hb : q.length + p.length ≤ 1100000) (hbase : B ≤ w.heap.size)
    (h : ∀ v' w', OwnS B v' (q ++ p) w' → Below B w w' → wpList Tryd.prog ops Q rest (a.put o.dst v') w') : wpList Tryd.prog ops Q (o :: rest) a w :=
  wpList_plain hgd fun _ hK => wp_append_strs s x ho B v q p A m c hs hown hx hm h0 hp hb hbase fun v' w' h2 h3 => hK _ _ (h v' w' h2 h3)

/-- append of texts, at least one, to an empty slice with no room: all is new memory -/
theorem wp_first_strs {o : Oper} {a : Act} {w : World} {K : Act → World → Prop} {Q : Exit → Act → World → Prop} (s x : Operand)
    (ho : o.op = .call { callee := .builtin .append, args := #[s, x], argTypes := #[22, 22] }) (ad : Addr) (p : List (List UInt8)) (A : Option Addr) (m c : Nat)
    (hs : a.eval s = .slice (some ad) 0 0) (hx : a.eval x = .slice A m c) (hm : m = p.length) (h0 : 0 < m) (hp : Strs w w.heap.size A p) (hb : p.length ≤ 1100000)
    (h : ∀ v' w', OwnS w.heap.size v' p w' → Grow w w' → K (a.put o.dst v') w') : o.wp Tryd.prog a w K Q := by
  obtain ⟨i0, hi, hz0, hz1, hz2⟩ := info_parts info9
  subst hm
  obtain ⟨b, off, rfl, _, hc⟩ := hp (by omega)
  obtain ⟨v', w', hr, h2, h3⟩ := run_append_arg_grows (P := Tryd.prog) w 22 o.type 9 i0 (.string ⟨#[]⟩) 1 16 Tryd.underlying22 hi hz0 hz1 hz2 rfl (by decide) ad 0 0 [] rfl (by simp) ⟨b, off, none⟩ p.length c (cellsS p) (by rw [cellsS_len]; omega) (strs_news (A := none) hc) (by omega) (by unfold maxLen; omega) (by omega)
  unfold Oper.wp execOp
  simp only [ho, resolve, invoke, builtin, Sem.run_bind, Sem.run_pure, Result.andThen_ok, List.map_toArray, List.map_cons, List.map_nil, hs, hx, hr]
  refine h v' w' ?_ ((Below.refl _ _).grown h3 (Nat.le_refl _) (fun k hk => by cases hk))
  rw [Nat.zero_add, List.nil_append] at h2
  exact h2
theorem wpList_first_strs {ops : Array Oper} {rest : List Oper} {o : Oper} {a : Act} {w : World} {Q : Exit → Act → World → Prop} (hgd : o.guard = none) (s x : Operand)
    (ho : o.op = .call { callee := .builtin .append, args := #[s, x], argTypes := #[22, 22] }) (ad : Addr) (p : List (List UInt8)) (A : Option Addr) (m c : Nat)
    (hs : a.eval s = .slice (some ad) 0 0) (hx : a.eval x = .slice A m c) (hm : m = p.length) (h0 : 0 < m) (hp : Strs w w.heap.size A p) (hb : p.length ≤ 1100000)
    (h : ∀ v' w', OwnS w.heap.size v' p w' → Grow w w' → wpList Tryd.prog ops Q rest (a.put o.dst v') w') : wpList Tryd.prog ops Q (o :: rest) a w :=
  wpList_plain hgd fun _ hK => wp_first_strs s x ho ad p A m c hs hx hm h0 hp hb fun v' w' h2 h3 => hK _ _ (h v' w' h2 h3)
theorem OwnS.base {B B' : Nat} {v : Value} {ls : List (List UInt8)} {w : World} (h : OwnS B v ls w) (hB : B' ≤ B) : OwnS B' v ls w := by
  refine ⟨h.1, ?_⟩
  rcases h.2 with h0 | ⟨g', cap', cur, hv, hbg, hgg, rest⟩
  · exact .inl h0
  · exact .inr ⟨g', cap', cur, hv, Nat.le_trans hB hbg, hgg, rest⟩
end Go.Proofs.YtcnijmmpkahoaaaDoor
