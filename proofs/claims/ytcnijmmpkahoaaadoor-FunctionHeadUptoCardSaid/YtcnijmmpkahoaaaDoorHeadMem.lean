/-
  Heads of functions in memory. Nothing is claimed here by itself.
-/
import Derived.Test.YtcnijmmpkahoaaaDoorHeadRead
import Derived.Test.YtcnijmmpkahoaaaDoorOwnStrs
import Derived.Test.YtcnijmmpkahoaaaDoorShelf2
import Derived.Laws.AppendOwnNone
import Derived.Laws.Rows
namespace Go.Proofs.YtcnijmmpkahoaaaDoor
open Go.RowKit Go.Lib
set_option linter.unusedSimpArgs false
set_option linter.unusedVariables false

/-- a head by value: its locals lie at A -/
def hdV (h : Hd) (A : Option Addr) (n c : Nat) : Value := .agg #[strv h.res, strv h.left, strv h.name, strv h.right, strv h.f, strv h.g, .slice A n c]
/-- its locals read so -/
structure HdIn (w : World) (A : Option Addr) (n c : Nat) (h : Hd) : Prop where
  len : h.locs.length = n
  cap : n ≤ c
  top : n ≤ 1050000
  none : A = none → c = 0
  strs : Strs w w.heap.size A h.locs
  each : ∀ s ∈ allH h, s.length ≤ 1100000
theorem HdIn.grow {w w' : World} {A : Option Addr} {n c : Nat} {h : Hd} (k : HdIn w A n c h) (hg : Grow w w') : HdIn w' A n c h := ⟨k.len, k.cap, k.top, k.none, k.strs.grow hg, k.each⟩
theorem HdIn.below {w w' : World} {A : Option Addr} {n c B : Nat} {h : Hd} (k : HdIn w A n c h) (hs : Strs w B A h.locs) (hg : Below B w w') (hB : B ≤ w'.heap.size) : HdIn w' A n c h := ⟨k.len, k.cap, k.top, k.none, (hs.below hg).more hB, k.each⟩
theorem HdIn.parts {w : World} {A : Option Addr} {n c : Nat} {h : Hd} (k : HdIn w A n c h) : h.res.length ≤ 1100000 ∧ h.left.length ≤ 1100000 ∧ h.name.length ≤ 1100000 ∧ h.right.length ≤ 1100000 ∧ h.f.length ≤ 1100000 ∧ h.g.length ≤ 1100000 ∧ ∀ s ∈ h.locs, s.length ≤ 1100000 :=
  ⟨k.each _ (by simp [allH]), k.each _ (by simp [allH]), k.each _ (by simp [allH]), k.each _ (by simp [allH]), k.each _ (by simp [allH]), k.each _ (by simp [allH]), fun s hs => k.each _ (by simp [allH, hs])⟩

/-- the cells of a head -/
def hdC (h : Hd) (A : Option Addr) (n c : Nat) : Array Value := #[strv h.res, strv h.left, strv h.name, strv h.right, strv h.f, strv h.g, .slice A n c]
/-- a head in a block of its own -/
def BoxH (w : World) (b : Nat) (h : Hd) (A : Option Addr) (n c : Nat) : Prop := w.heap[b]? = some (.cells (hdC h A n c) 33 (0, 0))
section
variable {w w' : World} {b : Nat} {h : Hd} {A : Option Addr} {n c : Nat}
theorem BoxH.lt (k : BoxH w b h A n c) : b < w.heap.size := heap_lt k
theorem BoxH.grow (k : BoxH w b h A n c) (hg : Grow w w') : BoxH w' b h A n c := (hg.block b k.lt).trans k
theorem BoxH.at0 (k : BoxH w b h A n c) : w.cell? ⟨b, 0, none⟩ = some (.string ⟨h.res.toArray⟩) := cell_of_row w b 0 _ _ (0, 0) k
theorem BoxH.at1 (k : BoxH w b h A n c) : w.cell? ⟨b, 1, none⟩ = some (.string ⟨h.left.toArray⟩) := cell_of_row w b 1 _ _ (0, 0) k
theorem BoxH.at2 (k : BoxH w b h A n c) : w.cell? ⟨b, 2, none⟩ = some (.string ⟨h.name.toArray⟩) := cell_of_row w b 2 _ _ (0, 0) k
theorem BoxH.at3 (k : BoxH w b h A n c) : w.cell? ⟨b, 3, none⟩ = some (.string ⟨h.right.toArray⟩) := cell_of_row w b 3 _ _ (0, 0) k
theorem BoxH.at4 (k : BoxH w b h A n c) : w.cell? ⟨b, 4, none⟩ = some (.string ⟨h.f.toArray⟩) := cell_of_row w b 4 _ _ (0, 0) k
theorem BoxH.at5 (k : BoxH w b h A n c) : w.cell? ⟨b, 5, none⟩ = some (.string ⟨h.g.toArray⟩) := cell_of_row w b 5 _ _ (0, 0) k
theorem BoxH.at6 (k : BoxH w b h A n c) : w.cell? ⟨b, 6, none⟩ = some (.slice A n c) := cell_of_row w b 6 _ _ (0, 0) k
theorem BoxH.froz (k : BoxH w b h A n c) (j : Nat) : w.frozen? ⟨b, j, none⟩ = false := frozen_of_row w b j _ _ k
theorem boxH_new (w : World) (h : Hd) (A : Option Addr) (n c : Nat) : BoxH (w.alloc (.cells #[.string ⟨h.res.toArray⟩, .string ⟨h.left.toArray⟩, .string ⟨h.name.toArray⟩, .string ⟨h.right.toArray⟩, .string ⟨h.f.toArray⟩, .string ⟨h.g.toArray⟩, .slice A n c] 33)) w.heap.size h A n c := heap_alloc_new w _
theorem BoxH.put6 (k : BoxH w b h A n c) (A' : Option Addr) (n' c' : Nat) (ls : List (List UInt8)) : BoxH (w.setCell ⟨b, 6, none⟩ (.slice A' n' c')) b { h with locs := ls } A' n' c' := heap_setCell_same w b 6 _ _ _ k
theorem BoxH.put0 (k : BoxH w b h A n c) (s : List UInt8) : BoxH (w.setCell ⟨b, 0, none⟩ (.string ⟨s.toArray⟩)) b { h with res := s } A n c := heap_setCell_same w b 0 _ _ _ k
theorem BoxH.put1 (k : BoxH w b h A n c) (s : List UInt8) : BoxH (w.setCell ⟨b, 1, none⟩ (.string ⟨s.toArray⟩)) b { h with left := s } A n c := heap_setCell_same w b 1 _ _ _ k
theorem BoxH.put2 (k : BoxH w b h A n c) (s : List UInt8) : BoxH (w.setCell ⟨b, 2, none⟩ (.string ⟨s.toArray⟩)) b { h with name := s } A n c := heap_setCell_same w b 2 _ _ _ k
theorem BoxH.put3 (k : BoxH w b h A n c) (s : List UInt8) : BoxH (w.setCell ⟨b, 3, none⟩ (.string ⟨s.toArray⟩)) b { h with right := s } A n c := heap_setCell_same w b 3 _ _ _ k
theorem BoxH.put4 (k : BoxH w b h A n c) (s : List UInt8) : BoxH (w.setCell ⟨b, 4, none⟩ (.string ⟨s.toArray⟩)) b { h with f := s } A n c := heap_setCell_same w b 4 _ _ _ k
theorem BoxH.put5 (k : BoxH w b h A n c) (s : List UInt8) : BoxH (w.setCell ⟨b, 5, none⟩ (.string ⟨s.toArray⟩)) b { h with g := s } A n c := heap_setCell_same w b 5 _ _ _ k
end

/-- append of any texts, none too, behind a row of one's own -/
theorem wpList_append_any {ops : Array Oper} {rest : List Oper} {o : Oper} {a : Act} {w : World} {Q : Exit → Act → World → Prop} (hgd : o.guard = none) (s x : Operand)
    (ho : o.op = .call { callee := .builtin .append, args := #[s, x], argTypes := #[22, 22] }) (B : Nat) (v : Value) (q p : List (List UInt8)) (A : Option Addr) (m c : Nat)
    (hs : a.eval s = v) (hown : OwnS B v q w) (hx : a.eval x = .slice A m c) (hm : p.length = m) (hc : A = none → c = 0) (hp : Strs w w.heap.size A p) (hb : q.length + p.length ≤ 1000000000) (hbase : B ≤ w.heap.size)
    (h : ∀ v' w', OwnS B v' (q ++ p) w' → Below B w w' → wpList Tryd.prog ops Q rest (a.put o.dst v') w') : wpList Tryd.prog ops Q (o :: rest) a w := by
  obtain ⟨i0, hi, hz0, hz1, hz2⟩ := info_parts info9
  subst hm
  cases A with
  | none =>
    have hp0 : p = [] := by
      rcases Nat.eq_zero_or_pos p.length with h0 | h0
      · exact List.eq_nil_of_length_eq_zero h0
      · obtain ⟨b, off, e, _⟩ := hp h0
        cases e
    have hc0 := hc rfl
    subst hp0 hc0
    refine wpList_append_own_none hgd s x 22 ho B 9 i0 1 Tryd.underlying22 hi v q.length (cellsS q) hs hown hx (h v w ?_ (Below.refl _ _))
    rw [List.append_nil]
    exact hown
  | some ad =>
    refine wpList_append_own w hgd s x 22 ho B 9 i0 (.string ⟨#[]⟩) 1 16 Tryd.underlying22 hi hz0 hz1 hz2 rfl (by decide) v q.length (cellsS q) hs hown ad p.length c (cellsS p) hx (by rw [cellsS_len]; omega) ?_ (cellsS_one p) (by unfold maxLen; omega) (by omega) hbase ?_
    · intro j u hu
      have hj : j < p.length := by
        have := (List.getElem?_eq_some_iff.1 hu).1
        rwa [cellsS_len] at this
      obtain ⟨b, off, e, _, hcl⟩ := hp (by omega)
      cases e
      exact strs_news (A := none) hcl j u hu
    · intro v' w' hown' hgrow _
      refine h v' w' ?_ (Below.grown (Below.refl _ _) hgrow hbase (fun g hg => (hown.lt g hg).1))
      unfold OwnS
      rw [List.length_append, cellsS_app]
      exact hown'
theorem ownS_lit (w : World) (q : List (List UInt8)) (hq : q.length ≤ 1100000) : OwnS w.heap.size (.slice (some ⟨w.heap.size, 0, none⟩) q.length q.length) q (w.alloc (.cells (q.map strv).toArray 9)) := by
  refine ⟨by simp [cellsS], .inr ⟨w.heap.size, q.length, (q.map strv).toArray, rfl, Nat.le_refl _, heap_alloc_new w _, Nat.le_refl _, ?_, by simp, ?_⟩⟩
  · unfold maxLen; omega
  · simp only [cellsS, Nat.mul_one]
    exact List.take_of_length_le (by simp)
/-- texts of one's own, with what a slice of them is -/
theorem OwnS.strs' {B : Nat} {v : Value} {ls : List (List UInt8)} {w : World} (h : OwnS B v ls w) : ∃ A c, v = .slice A ls.length c ∧ ls.length ≤ c ∧ (A = none → c = 0) ∧ Strs w w.heap.size A ls := by
  rcases h.2 with ⟨rfl, hx⟩ | ⟨g, cap, cur, rfl, hbg, hgg, hnc, _, hsz, htake⟩
  · have : ls = [] := List.eq_nil_of_length_eq_zero hx
    subst this
    exact ⟨none, 0, rfl, Nat.le_refl _, fun _ => rfl, strs_nil⟩
  · obtain ⟨A', c', e, hs⟩ := h.strs
    injection e with e1 e2 e3
    subst e1 e3
    exact ⟨_, cap, rfl, hnc, (fun e => by cases e), hs⟩
end Go.Proofs.YtcnijmmpkahoaaaDoor
