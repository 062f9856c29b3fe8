/-
  Acts in memory, and a cursor that has failed. Nothing is claimed here by itself.
-/
import Derived.Test.YteijplolmpffmaaSmall
import Derived.Deep.CutBlock
import Derived.Deep.CutRange
import Derived.Deep.LoopGhost
namespace Go.Proofs.Yteijplolmpffmaa
open Go.RowKit

/-- the slice at address A holds the acts l; it lies below block B -/
def Acts (w : World) (B : Nat) (A : Option Addr) (l : List (Int × Int)) : Prop :=
  0 < l.length → ∃ b off, A = some ⟨b, off, none⟩ ∧ b < B ∧ ∀ i, i < l.length → w.cell? ⟨b, off + i * 2, none⟩ = some (.int .i64 (l.getD i (0, 0)).1) ∧ w.cell? ⟨b, off + i * 2 + 1, none⟩ = some (.int .i64 (l.getD i (0, 0)).2)
theorem Acts.kept {S : Nat → Prop} {w w' : World} {B : Nat} {A : Option Addr} {l : List (Int × Int)} (h : Acts w B A l) (hB : B ≤ w.heap.size) (hk : Kept S w w') (hs : ∀ k, S k → B ≤ k) : Acts w' B A l := fun hn => by
  obtain ⟨b, off, e, hb, hc⟩ := h hn
  have hne : ¬ S b := fun x => by have := hs b x; omega
  exact ⟨b, off, e, hb, fun i hi => ⟨(hk.cell (p := ⟨b, off + i * 2, none⟩) (Nat.lt_of_lt_of_le hb hB) hne).trans (hc i hi).1, (hk.cell (p := ⟨b, off + i * 2 + 1, none⟩) (Nat.lt_of_lt_of_le hb hB) hne).trans (hc i hi).2⟩⟩
theorem Acts.grow {w w' : World} {B : Nat} {A : Option Addr} {l : List (Int × Int)} (h : Acts w B A l) (hB : B ≤ w.heap.size) (hg : Grow w w') : Acts w' B A l :=
  h.kept (S := fun _ => False) hB (Kept.of_grow hg) (fun _ x => x.elim)

/-- whole numbers of sixty-four bits -/
def I64 (l : List (Int × Int)) : Prop := ∀ x ∈ l, -9223372036854775808 ≤ x.2 ∧ x.2 < 9223372036854775808
theorem I64.at_ {l : List (Int × Int)} (h : I64 l) (i : Nat) : -9223372036854775808 ≤ (l.getD i (0, 0)).2 ∧ (l.getD i (0, 0)).2 < 9223372036854775808 := by
  by_cases hi : i < l.length
  · exact h _ (by simp [hi])
  · simp [List.getElem?_eq_none (show l.length ≤ i by omega)]

/-- a cursor that has failed -/
structure Dead (s : St) : Prop where
  nil : s.bs = []
  err : s.e ≠ 0
theorem Dead.fail {s : St} (h : Dead s) (x : Int) : failS x s = s := by unfold failS; rw [if_pos (.inr h.err)]
theorem Dead.byte {s : St} (h : Dead s) : byteS s = (0, s) := by unfold byteS; rw [if_pos h.nil, h.fail]
theorem Dead.tk {s : St} (h : Dead s) : takeN s.bs = (0, 0, 2) := by rw [h.nil]; rfl
theorem Dead.num {s : St} (h : Dead s) (x : Int) : numS x s = (0, s) := by unfold numS; rw [h.tk]; simp [settleS, h.fail]
theorem Dead.int {s : St} (h : Dead s) : intS s = (0, s) := by unfold intS; rw [h.tk]; simp [settleS, h.fail, zagN]
theorem Dead.take {s : St} (h : Dead s) (x : Int) : takeS x s = ([], s) := by
  unfold takeS
  split
  · rw [h.fail]
  · rename_i hx
    rw [h.nil] at hx
    have e : x = 0 := by simp at hx; omega
    subst e
    obtain ⟨bs, p, e, q⟩ := s
    have hb : bs = [] := h.nil
    subst hb
    simp [passS]
theorem Dead.end_ {s : St} (h : Dead s) : endS s = (s.e, s.q) := by unfold endS; rw [if_pos h.nil]

section
variable {t : TypeId} {S : Nat → Prop} {g : Nat} {s : St}
theorem dead_byte (w : World) (h : IsC t S w g s) (hg : Good s) (hd : Dead s) : Calls Try.prog 11 #[.pointer (some ⟨g, 0, none⟩)] w (Turns t S g (.int .u8 0) s w) := by
  have H := byte_any w h hg
  rw [hd.byte] at H
  exact H
theorem dead_num (n : Int) (w : World) (h : IsC t S w g s) (hg : Good s) (hd : Dead s) (hn : n < 9223372036854775808) : Calls Try.prog 13 #[.pointer (some ⟨g, 0, none⟩), .int .i64 n] w (Turns t S g (.int .i64 0) s w) := by
  have H := num_any n w h hg hn
  rw [hd.num] at H
  exact H
theorem dead_int (w : World) (h : IsC t S w g s) (hg : Good s) (hd : Dead s) : Calls Try.prog 15 #[.pointer (some ⟨g, 0, none⟩)] w (Turns t S g (.int .i64 0) s w) := by
  have H := int_any w h hg
  rw [hd.int] at H
  exact H
theorem dead_take (n : Int) (w : World) (h : IsC t S w g s) (hg : Good s) (hd : Dead s) : Calls Try.prog 17 #[.pointer (some ⟨g, 0, none⟩), .int .i64 n] w (fun e w' => ∃ A cap, Turns t S g (.slice A 0 cap) s w e w') := by
  have H := take_c n w h hg
  rw [hd.take] at H
  refine H.mono ?_
  rintro e w' ⟨v, ho, ht⟩
  obtain ⟨A, cap, rfl, _⟩ := own_nums ho
  exact ⟨A, cap, ht⟩
theorem dead_fail (x : Int) (w : World) (h : IsC t S w g s) (hd : Dead s) : Calls Try.prog 19 #[.pointer (some ⟨g, 0, none⟩), .int .i64 x] w (Turns t S g (.tuple #[]) s w) := by
  have H := fail_any x w h
  rw [hd.fail] at H
  exact H
end
end Go.Proofs.Yteijplolmpffmaa
