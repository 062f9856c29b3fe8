/-
  What Left, Fault and pass of a cursor come to.
-/
import Derived.Test.YtoapfegmipopkaaState
namespace Go.Proofs.Ytoapfegmipopkaa
open Go.RowKit

theorem cells5 {w : World} {g : Nat} {t : TypeId} {a b c d e : Value} (h : w.heap[g]? = some (.cells #[a, b, c, d, e] t (0, 0))) :
    w.cell? ⟨g, 0, none⟩ = some a ∧ w.cell? ⟨g, 1, none⟩ = some b ∧ w.cell? ⟨g, 2, none⟩ = some c ∧ w.cell? ⟨g, 3, none⟩ = some d ∧ w.cell? ⟨g, 4, none⟩ = some e :=
  ⟨cell_of_row w g 0 _ t (0, 0) h, cell_of_row w g 1 _ t (0, 0) h, cell_of_row w g 2 _ t (0, 0) h, cell_of_row w g 3 _ t (0, 0) h, cell_of_row w g 4 _ t (0, 0) h⟩
theorem frozen5 {w : World} {g : Nat} {t : TypeId} {cs : Array Value} (h : w.heap[g]? = some (.cells cs t (0, 0))) : ∀ i, w.frozen? ⟨g, i, none⟩ = false := fun i => frozen_of_row w g i cs t h

theorem set0 {w : World} {g : Nat} {t : TypeId} {a b c d e : Value} (h : w.heap[g]? = some (.cells #[a, b, c, d, e] t (0, 0))) (v : Value) : (w.setCell ⟨g, 0, none⟩ v).heap[g]? = some (.cells #[v, b, c, d, e] t (0, 0)) := heap_setCell_same w g 0 _ t v h
theorem set1 {w : World} {g : Nat} {t : TypeId} {a b c d e : Value} (h : w.heap[g]? = some (.cells #[a, b, c, d, e] t (0, 0))) (v : Value) : (w.setCell ⟨g, 1, none⟩ v).heap[g]? = some (.cells #[a, v, c, d, e] t (0, 0)) := heap_setCell_same w g 1 _ t v h
theorem set2 {w : World} {g : Nat} {t : TypeId} {a b c d e : Value} (h : w.heap[g]? = some (.cells #[a, b, c, d, e] t (0, 0))) (v : Value) : (w.setCell ⟨g, 2, none⟩ v).heap[g]? = some (.cells #[a, b, v, d, e] t (0, 0)) := heap_setCell_same w g 2 _ t v h
theorem set3 {w : World} {g : Nat} {t : TypeId} {a b c d e : Value} (h : w.heap[g]? = some (.cells #[a, b, c, d, e] t (0, 0))) (v : Value) : (w.setCell ⟨g, 3, none⟩ v).heap[g]? = some (.cells #[a, b, c, v, e] t (0, 0)) := heap_setCell_same w g 3 _ t v h
theorem set4 {w : World} {g : Nat} {t : TypeId} {a b c d e : Value} (h : w.heap[g]? = some (.cells #[a, b, c, d, e] t (0, 0))) (v : Value) : (w.setCell ⟨g, 4, none⟩ v).heap[g]? = some (.cells #[a, b, c, d, v] t (0, 0)) := heap_setCell_same w g 4 _ t v h

/-- the answer, the cursor behind it, and nothing else has turned -/
def Turns (t : TypeId) (S : Nat → Prop) (g : Nat) (v : Value) (s : St) (w : World) (e : Ending) (w' : World) : Prop := e = .returned v ∧ IsC t S w' g s ∧ Kept (fun k => k = g) w w'

set_option maxHeartbeats 400000 in
theorem left_any {t : TypeId} {S : Nat → Prop} {g : Nat} {s : St} (w : World) (h : IsC t S w g s) :
    Calls Try.prog 17 #[.pointer (some ⟨g, 0, none⟩)] w fun e w' => e = .returned (.int .i64 (s.bs.length : Nat)) ∧ w = w' := by
  obtain ⟨_, A, cap, hb, _⟩ := h
  obtain ⟨c0, -, -, -, -⟩ := cells5 hb
  clear hb
  go_enter Try.func17, Try.ntmps17
  go_wp2
  go_ret
  exact ⟨rfl, rfl⟩

set_option maxHeartbeats 400000 in
theorem fault_any {t : TypeId} {S : Nat → Prop} {g : Nat} {s : St} (w : World) (h : IsC t S w g s) :
    Calls Try.prog 26 #[.pointer (some ⟨g, 2, none⟩)] w fun e w' => e = .returned (.agg #[.int .i64 s.e, .int .i64 0, .int .i64 s.q]) ∧ Grow w w' := by
  obtain ⟨_, A, cap, hb, _⟩ := h
  obtain ⟨-, -, c2, c3, c4⟩ := cells5 hb
  have hlt := (Array.getElem?_eq_some_iff.1 hb).1
  clear hb
  go_enter Try.func26, Try.ntmps26
  go_wp2
  exact bodyPost_ret (v := .agg #[.int .i64 s.e, .int .i64 0, .int .i64 s.q]) (by simp [results, Try.results26, go_sem]) rfl ⟨rfl, grow_new _ _⟩

def Passed (S : Nat → Prop) (t : TypeId) (g n : Nat) (s : St) (w : World) (e : Ending) (w' : World) : Prop :=
  ∃ A cap, Turns t S g (.slice A n cap) (passS n s) w e w' ∧ Has S w' A cap s.bs

set_option maxHeartbeats 400000 in
theorem pass_any {t : TypeId} {S : Nat → Prop} {g n : Nat} {s : St} (w : World) (h : IsC t S w g s) (hg : Good s) (hn : n ≤ s.bs.length) :
    Calls Try.prog 38 #[.pointer (some ⟨g, 0, none⟩), .int .i64 (n : Nat)] w (Passed S t g n s w) := by
  have hpl := hg.pl
  have hp0 := hg.p0
  obtain ⟨hS, A, cap, hb, hh⟩ := h
  obtain ⟨c0, c1, -, -, -⟩ := cells5 hb
  have hf := frozen5 hb
  have hf0 := hf 0
  have hf1 := hf 1
  have hcap := hh.2.1
  obtain ⟨AK, hAK⟩ : ∃ AK, (if cap = n then A else Option.map (fun x => x.add n) A) = AK := ⟨_, rfl⟩
  have HB := Lib.hid hb
  have HH := Lib.hid hh
  clear hb hh hf
  go_enter Try.func38, Try.ntmps38
  go_wp2
  go_ret
  have hk : Kept (fun k => k = g) w ((w.setCell ⟨g, 0, none⟩ (.slice AK (s.bs.length - n) (cap - n))).setCell ⟨g, 1, none⟩ (.int .i64 (s.p + n))) := ((Kept.refl _ w).one _).one _
  have hg' := set1 (set0 HB.out (.slice AK (s.bs.length - n) (cap - n))) (.int .i64 (s.p + n))
  refine ⟨A, cap, ⟨rfl, ⟨hS, AK, cap - n, ?_, ?_⟩, hk⟩, HH.out.kept hk (fun k e => e ▸ hS)⟩
  · simpa [passS] using hg'
  · have hcut := HH.out.cut n hn
    rw [hAK] at hcut
    exact hcut.kept hk (fun k e => e ▸ hS)
end Go.Proofs.Ytoapfegmipopkaa
