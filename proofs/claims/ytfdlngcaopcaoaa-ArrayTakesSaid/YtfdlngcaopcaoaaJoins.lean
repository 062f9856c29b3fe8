/-
  Any nodes behind nodes of one's own that have no room: at the operation. Nothing is claimed here by itself.
-/
import Derived.Test.YtfdlngcaopcaoaaNest
namespace Go.Proofs.Ytfdlngcaopcaoaa
set_option linter.unusedVariables false
open Go.RowKit Go.Lib

theorem wpList_join {ops : Array Oper} {rest : List Oper} {o : Oper} {a : Act} {w : World} {Q : Exit → Act → World → Prop} (hgd : o.guard = none) (s x : Operand)
    (ho : o.op = .call { callee := .builtin .append, args := #[s, x], argTypes := #[22, 22] }) (ad : Addr) (n m c : Nat) (A : Option Addr) (ns ms : List Nd)
    (hs : a.eval s = .slice (some ad) n n) (hx : a.eval x = .slice A m c) (hn : ns.length = n) (hm : ms.length = m) (h0 : 0 < n) (hns : Nodes w w.heap.size (some ad) ns) (hms : Nodes w w.heap.size A ms) (hb : n + m ≤ 1000000000)
    (h : ∀ A' c' w', Hid (Nodes w' w'.heap.size A' (ns ++ ms)) → Hid (n + m ≤ c') → Hid (Grow w w') → wpList Try.prog ops Q rest (a.put o.dst (.slice A' (n + m) c')) w') : wpList Try.prog ops Q (o :: rest) a w :=
  wpList_plain hgd fun K hK => wp_join s x ho ad n m c A ns ms hs hx hn hm h0 hns hms hb fun A' c' w' h1 h2 h3 => hK _ _ (h A' c' w' (Lib.hid h1) (Lib.hid h2) (Lib.hid h3))
/-- .. where a guard says yes -/
theorem wpList_join_w {ops : Array Oper} {rest : List Oper} {o : Oper} {a : Act} {w : World} {Q : Exit → Act → World → Prop} (s x : Operand) (hgd : Region.wanted o (yielded ops a.tmps) = true)
    (ho : o.op = .call { callee := .builtin .append, args := #[s, x], argTypes := #[22, 22] }) (ad : Addr) (n m c : Nat) (A : Option Addr) (ns ms : List Nd)
    (hs : a.eval s = .slice (some ad) n n) (hx : a.eval x = .slice A m c) (hn : ns.length = n) (hm : ms.length = m) (h0 : 0 < n) (hns : Nodes w w.heap.size (some ad) ns) (hms : Nodes w w.heap.size A ms) (hb : n + m ≤ 1000000000)
    (h : ∀ A' c' w', Hid (Nodes w' w'.heap.size A' (ns ++ ms)) → Hid (n + m ≤ c') → Hid (Grow w w') → wpList Try.prog ops Q rest (a.put o.dst (.slice A' (n + m) c')) w') : wpList Try.prog ops Q (o :: rest) a w :=
  wpList_step fun K hK => by
    rw [if_pos hgd]
    exact wp_join s x ho ad n m c A ns ms hs hx hn hm h0 hns hms hb fun A' c' w' h1 h2 h3 => hK _ _ (h A' c' w' (Lib.hid h1) (Lib.hid h2) (Lib.hid h3))
end Go.Proofs.Ytfdlngcaopcaoaa
