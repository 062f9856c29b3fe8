/-
  What the document's own Signs comes to, called with any text.
-/
import Derived.Test.YthmhpjjpjgmdaaaDoorRNext
namespace Go.Proofs.YthmhpjjpjgmdaaaDoor
open Go.RowKit Go.Lib
set_option linter.unusedSimpArgs false

theorem next_le {l : List UInt8} (h : (nextD l).2 ≠ 0) : (nextD l).2 ≤ l.length := by
  obtain ⟨_, h2, h3⟩ := next_inv h
  have := congrArg List.length h2
  rw [List.length_append, List.length_drop] at this
  omega
theorem info3 : (Tryd.prog.info? 3).map (fun i => (i.zero, i.size, i.bytes)) = some (some (.int .i64 0), 1, 8) := by kernel_rfl
def natCells (q : List Nat) : List Value := q.map fun n => .int .i64 ((n : Nat) : Int)
theorem natCells_app (a b : List Nat) : natCells (a ++ b) = natCells a ++ natCells b := by simp [natCells]
theorem natCells_one (l : List Nat) : ∀ u ∈ natCells l, u.oneCell' = true := by
  intro u hu
  simp only [natCells, List.mem_map] at hu
  obtain ⟨c, _, rfl⟩ := hu
  rfl
/-- numbers of one's own -/
def OwnN (B : Nat) (v : Value) (q : List Nat) (w : World) : Prop := w.ownsRow B 3 1 v q.length (natCells q)
theorem ownN_nil (B : Nat) (w : World) : OwnN B (.slice none 0 0) [] w := World.ownsRow_nil _ _ _ _
theorem OwnN.grow {B : Nat} {v : Value} {q : List Nat} {w w' : World} (h : OwnN B v q w) (hg : Grow w w') : OwnN B v q w' := by
  refine ⟨h.1, ?_⟩
  rcases h.2 with h0 | ⟨g', cap', cur, hv, hbg, hgg, rest⟩
  · exact .inl h0
  · exact .inr ⟨g', cap', cur, hv, hbg, (hg.block g' (heap_lt hgg)).trans hgg, rest⟩
/-- numbers that may be read -/
def NumsAt (w : World) (A : Option Addr) (q : List Nat) : Prop := Nums .i64 w w.heap.size A (q.map fun n => ((n : Nat) : Int))
theorem OwnN.nums {B : Nat} {v : Value} {q : List Nat} {w : World} (h : OwnN B v q w) : ∃ A cap, v = .slice A q.length cap ∧ q.length ≤ cap ∧ NumsAt w A q := by
  rcases h.2 with ⟨rfl, h0⟩ | ⟨g, cap, cur, rfl, hbg, hgg, hnc, _, hsz, htake⟩
  · have hq : q = [] := List.eq_nil_of_length_eq_zero h0
    subst hq
    exact ⟨none, 0, rfl, Nat.le_refl _, Nums.none_⟩
  · refine ⟨_, cap, rfl, hnc, fun _ => ⟨g, 0, rfl, heap_lt hgg, fun i hi => ?_⟩⟩
    rw [List.length_map] at hi
    rw [cell_of_row w g (0 + i) cur 3 (0, 0) hgg, Nat.zero_add]
    have h1 : (cur.toList.take (q.length * 1))[i]? = (natCells q)[i]? := by rw [htake]
    rw [List.getElem?_take, if_pos (by omega), Array.getElem?_toList] at h1
    rw [h1]
    simp [natCells, hi]
theorem wpList_append_num {ops : Array Oper} {rest : List Oper} {o : Oper} {a : Act} {w : World} {Q : Exit → Act → World → Prop} (hgd : o.guard = none) (s x : Operand)
    (ho : o.op = .call { callee := .builtin .append, args := #[s, x], argTypes := #[22, 22] }) (B : Nat) (v : Value) (q p : List Nat) (m c : Nat)
    (hs : a.eval s = v) (hown : OwnN B v q w) (hx : a.eval x = .slice (some ⟨w.heap.size, 0, none⟩) m c) (hm : m = p.length) (hb : (q.length + p.length) * 8 ≤ 140737488355328) (hbase : B ≤ w.heap.size)
    (h : ∀ v' w', OwnN B v' (q ++ p) w' → Below B w w' → wpList Tryd.prog ops Q rest (a.put o.dst v') w') : wpList Tryd.prog ops Q (o :: rest) a (w.alloc (.cells (natCells p).toArray 3)) := by
  obtain ⟨i0, hi, hz0, hz1, hz2⟩ := info_of info3
  subst hm
  have hown' : OwnN B v q (w.alloc (.cells (natCells p).toArray 3)) := hown.grow (grow_new _ _)
  refine wpList_append_own _ hgd s x 22 ho B 3 i0 (.int .i64 0) 1 8 Tryd.underlying22 hi hz0 hz1 hz2 rfl (by decide) v q.length (natCells q) hs hown' ⟨w.heap.size, 0, none⟩ p.length c (natCells p) hx (by simp [natCells]) (fun j u hj => by
      rw [Addr.add_lit, World.cell?_alloc_new]
      simpa using hj) (natCells_one p) (by unfold maxLen; omega) (by omega) (by simp; omega) ?_
  intro v' w' h2 hgrow _
  refine h v' w' ?_ (Below.trans (Below.mono (grow_new w _) hbase) (Below.grown (Below.refl _ _) hgrow (by simp; omega) (fun g hg => (hown'.lt g hg).1)))
  unfold OwnN
  rw [List.length_append, natCells_app]
  exact h2

theorem list_cases (l : List UInt8) : l = [] ∨ ∃ c t, l = c :: t := by cases l with
  | nil => exact .inl rfl
  | cons c t => exact .inr ⟨c, t, rfl⟩

structure SigAt (l : List UInt8) (w : World) (rest : List UInt8) (done : List Nat) (v : Value) (wr : World) : Prop where
  eq : signsD l = (signsD rest).map (done ++ ·)
  le : done.length + rest.length ≤ l.length
  own : OwnN w.heap.size v done wr
  grow : Grow w wr

def SignsOf (l : List UInt8) (w : World) (e : Ending) (w' : World) : Prop :=
  ∃ v, e = .returned (.tuple #[v, .bool (signsD l).isSome]) ∧ OwnN w.heap.size v ((signsD l).getD []) w' ∧ Grow w w'

set_option maxRecDepth 10000 in
set_option maxHeartbeats 1600000 in
theorem rsigns_any (l : List UInt8) (w : World) (hl : l.length ≤ 1000000) : Calls Tryd.prog 20 #[.string ⟨l.toArray⟩] w (SignsOf l w) := by
  go_enter Tryd.func20, Tryd.ntmps20
  go_wp2
  go_loopg [0, 4] l.length (fun g s0 s4 wr => ∃ (R : List UInt8) (done : List Nat) (v : Value), g = R.length ∧ s0 = .string ⟨R.toArray⟩ ∧ v = s4 ∧ SigAt l w R done v wr)
  case atStart =>
    refine ⟨l, [], _, rfl, rfl, rfl, ?_, by simp, ownN_nil _ _, Grow.refl _⟩
    cases signsD l with
    | none => rfl
    | some u => rfl
  case round =>
    obtain ⟨R, done, v, rfl, rfl, rfl, hat⟩ := hrel
    have HA := Lib.hid hat
    rcases list_cases R with hR | ⟨x, t, hR⟩
    · subst hR
      have HS : Hid (signsD l = some done) := Lib.hid (by rw [hat.eq, signsD_nil]; simp)
      clear hat
      go_wp2
      go_ret2
      exact ⟨_, by rw [HS.out]; rfl, by rw [HS.out]; exact HA.out.own, HA.out.grow⟩
    · have hne : (R == []) = false := by rw [hR]; rfl
      have hnil : R ≠ [] := by rw [hR]; simp
      have hRl : R.length ≤ 1000000 := by have := hat.le; omega
      have hdl : done.length ≤ 1000000 := by have := hat.le; omega
      obtain ⟨c, hc⟩ : ∃ c, (nextD R).1 = c := ⟨_, rfl⟩
      obtain ⟨n, hn⟩ : ∃ n, (nextD R).2 = n := ⟨_, rfl⟩
      have hcn : nextD R = (c, n) := Prod.ext hc hn
      have HN := Lib.hid (rnext_any R wr hnil hRl)
      rw [hcn] at HN
      have hst := signsD_step hnil
      rw [hcn] at hst
      simp only at hst
      by_cases h0 : n = 0
      · subst h0
        rw [if_pos rfl] at hst
        have HS : Hid (signsD l = none) := Lib.hid (by rw [hat.eq, hst]; rfl)
        clear hat hR hnil hc hn hcn hst
        go_wp2_with fail
        refine (HN.out).mono ?_
        rintro e w2 ⟨rfl, rfl⟩
        go_wp2
        go_ret2
        exact ⟨_, by rw [HS.out]; rfl, by rw [HS.out]; exact ownN_nil _ _, HA.out.grow⟩
      · rw [if_neg h0] at hst
        have hle : n ≤ R.length := by have := next_le (l := R) (by rw [hcn]; exact h0); rw [hcn] at this; exact this
        have hsl := slice_from R n hle
        have hn0 : (((n : Nat) : Int) == 0) = false := by rw [beq_eq_false_iff_ne]; omega
        have HE : Hid (signsD l = (signsD (R.drop n)).map ((done ++ [c]) ++ ·)) := Lib.hid (by
          rw [hat.eq, hst]
          cases signsD (R.drop n) with
          | none => rfl
          | some u => simp)
        have hlt : (R.drop n).length < R.length := by rw [List.length_drop]; omega
        have hll : (done ++ [c]).length + (R.drop n).length ≤ l.length := by rw [List.length_append, List.length_drop, List.length_singleton]; have := hat.le; omega
        have HW : Hid (∀ W : World, W.alloc (.cells #[.int .i64 ((c : Nat) : Int)] 3) = W.alloc (.cells (natCells [c]).toArray 3)) := Lib.hid (fun _ => rfl)
        have hsz : w.heap.size ≤ wr.heap.size := hat.grow.size
        clear hat hR hnil hc hn hcn hst h0 hle
        go_wp2_with fail
        refine (HN.out).mono ?_
        rintro e w2 ⟨rfl, rfl⟩
        go_wp2_with (at_builtin; rw [HW.out]; refine wpList_append_num rfl _ _ rfl w.heap.size v done [c] 1 1 rfl HA.out.own rfl rfl (by simp only [List.length_cons, List.length_nil]; omega) hsz ?_; intro v1 w3 ho1 hb1)
        have HK : Hid (SigAt l w (R.drop n) (done ++ [c]) v1 w3) := Lib.hid ⟨HE.out, hll, ho1, Below.trans HA.out.grow hb1⟩
        clear ho1 hb1
        go_wp2
        go_roundg (R.drop n).length
        case rel => exact ⟨R.drop n, _, _, rfl, rfl, rfl, HK.out⟩
        case measure => exact hlt

end Go.Proofs.YthmhpjjpjgmdaaaDoor
