/-
  Bytes put behind bytes that have no spare room: all is new memory. Nothing is claimed here by itself.
-/
import Derived.Test.YtoapfegmipopkaaSmall
import Derived.ArgAppend
namespace Go.Proofs.Ytoapfegmipopkaa
open Go.RowKit

theorem conv_at {W : World} {A : Option Addr} {xs : List Int} (N cap : Nat) (h : Nums .u8 W W.heap.size A xs) (hN : xs.length = N) : ∀ wg, Grow W wg → (convert 22 9 (.slice A N cap)).run Try.prog wg = .ok (.string (strOfNums xs)) wg := fun wg hg => by
  subst hN
  exact conv_any (k := 22) cap (h.grow hg) rfl

theorem wp_grows {o : Oper} {a : Act} {w : World} {K : Act → World → Prop} {Q : Exit → Act → World → Prop} (s x : Operand)
    (ho : o.op = .call { callee := .builtin .append, args := #[s, x], argTypes := #[22, 22] }) (ad : Addr) (n m c : Nat) (A : Option Addr) (q p : List Int)
    (hs : a.eval s = .slice (some ad) n n) (hx : a.eval x = .slice A m c) (hn : n = q.length) (hm : m = p.length) (h0 : 0 < m) (hq : Nums .u8 w w.heap.size (some ad) q) (hp : Nums .u8 w w.heap.size A p) (hb : n + m ≤ 140737488355328)
    (h : ∀ A' c' w', w'.ownsRow w.heap.size 5 1 (.slice A' (n + m) c') (n + m) (u8s (q ++ p)) → Grow w w' → K (a.put o.dst (.slice A' (n + m) c')) w') : o.wp Try.prog a w K Q := by
  obtain ⟨i0, hi, hz0, hz1, hz2⟩ := info_parts info5
  obtain ⟨b, off, rfl, _, _⟩ := hp (by omega)
  subst hn hm
  obtain ⟨v', w', hr, h2, h3⟩ := run_append_arg_grows (P := Try.prog) w 22 o.type 5 i0 (.int .u8 0) 1 1 Try.underlying22 hi hz0 hz1 hz2 rfl (by decide) ad q.length q.length (u8s q) (by rw [u8s_len]; omega) (nums_news hq) ⟨b, off, none⟩ p.length c (u8s p) (by rw [u8s_len]; omega) (nums_news hp) (by omega) (by unfold maxLen; omega) (by omega)
  rw [← u8s_app] at h2
  have hg : Grow w w' := (Below.refl _ _).grown h3 (Nat.le_refl _) (fun k hk => by cases hk)
  obtain ⟨A', c', rfl, -, -, -⟩ := own_nums h2
  unfold Oper.wp execOp
  simp only [ho, resolve, invoke, builtin, Sem.run_bind, Sem.run_pure, Result.andThen_ok, List.map_toArray, List.map_cons, List.map_nil, hs, hx, hr]
  exact h A' c' w' h2 hg

/-- no run, no group but one -/
theorem bef_none (xs : List Int) (h : ∀ j, 2 ≤ j → j < xs.length → ¬ (xs.getD j 0 = xs.getD (j - 1) 0 ∧ xs.getD j 0 = xs.getD (j - 2) 0)) : bef xs = xs.length := by
  have : ∀ d k, xs.length - k = d → k ≤ xs.length → bef (xs.drop k) = d := by
    intro d
    induction d with
    | zero =>
      intro k h1 h2
      rw [List.drop_of_length_le (by omega)]
      rfl
    | succ d ih =>
      intro k h1 h2
      rw [bef_at (by omega), if_neg, ih (k + 1) (by omega) (by omega)]
      rintro ⟨q1, q2, q3⟩
      exact h (k + 2) (by omega) q1 ⟨by rw [q3, show k + 2 - 1 = k + 1 by omega, q2], by rw [q3, show k + 2 - 2 = k by omega]⟩
  have := this xs.length 0 (by omega) (by omega)
  rwa [List.drop_zero] at this
theorem enc_none (xs : List Int) (m : Nat) (hm : xs.length = m + 1) (h : bef xs = xs.length) : enc xs = digs (2 * m) ++ xs := by
  have h1 := enc_oth xs [] (fun e => by rw [e] at hm; simp at hm) (by rw [List.append_nil]; exact h)
  rw [List.append_nil, enc_nil, List.append_nil, show xs.length - 1 = m by omega] at h1
  exact h1
theorem enc_like (c : Int) (m : Nat) : enc (List.replicate (m + 3) c) = digs (2 * m + 1) ++ [c] := by
  have h1 := enc_run c m [] (by simp)
  rw [List.append_nil, enc_nil] at h1
  exact h1
end Go.Proofs.Ytoapfegmipopkaa
