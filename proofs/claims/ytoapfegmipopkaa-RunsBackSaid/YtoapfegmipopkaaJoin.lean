/-
  Bytes put behind bytes of one's own, whatever they are. Nothing is claimed here by itself.
-/
import Derived.Test.YtoapfegmipopkaaPut
namespace Go.Proofs.Ytoapfegmipopkaa
open Go.RowKit

theorem wpList_append_bytes {ops : Array Oper} {rest : List Oper} {o : Oper} {a : Act} {w : World} {Q : Exit → Act → World → Prop} (hgd : o.guard = none) (s x : Operand)
    (ho : o.op = .call { callee := .builtin .append, args := #[s, x], argTypes := #[22, 22] }) (base : Nat) (v : Value) (n m c : Nat) (q p : List Int) (A : Option Addr) (B : Nat)
    (hs : a.eval s = v) (hown : w.ownsRow base 5 1 v n (u8s q)) (hx : a.eval x = .slice A m c) (hm : m = p.length) (hc : A = none → c = 0) (hr : Nums .u8 w B A p) (hb : n + m ≤ 140737488355328) (hbase : base ≤ w.heap.size)
    (h : ∀ v' w', w'.ownsRow base 5 1 v' (n + m) (u8s (q ++ p)) → Below base w w' → wpList Try.prog ops Q rest (a.put o.dst v') w') : wpList Try.prog ops Q (o :: rest) a w := by
  obtain ⟨i0, hi, hz0, hz1, hz2⟩ := info_parts info5
  cases A with
  | none =>
    have hp := nil_of_none hr
    have hc0 := hc rfl
    subst hp hm hc0
    refine wpList_append_own_none hgd s x 22 ho base 5 i0 1 Try.underlying22 hi v n (u8s q) hs hown hx (h v w ?_ (Below.refl _ _))
    rw [List.append_nil]
    exact hown
  | some ad =>
    subst hm
    refine wpList_append_own w hgd s x 22 ho base 5 i0 (.int .u8 0) 1 1 Try.underlying22 hi hz0 hz1 hz2 rfl (by decide) v n (u8s q) hs hown ad p.length c (u8s p) hx (by rw [u8s_len]; omega) (nums_news hr) (u8s_one p) (by unfold maxLen; omega) (by omega) hbase ?_
    intro v' w' hown' hgrow _
    refine h v' w' (by rw [u8s_app]; exact hown') (Below.grown (Below.refl _ _) hgrow hbase (fun g hg => (hown.lt g hg).1))
end Go.Proofs.Ytoapfegmipopkaa
