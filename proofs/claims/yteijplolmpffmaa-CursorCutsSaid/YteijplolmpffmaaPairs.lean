/-
  Two cursors side by side. Nothing is claimed here by itself.
-/
import Derived.Test.YteijplolmpffmaaActs
namespace Go.Proofs.Yteijplolmpffmaa
open Go.RowKit

/-- a fault's place is the place -/
def Held (s : St) : Prop := s.e ≠ 0 → s.q = s.p
theorem Held.turn {s s1 : St} (hg : Good s) (hh : Held s) (hd : Dead s → s1 = s) (hl : s.e = 0 → Held s1) : Held s1 := by
  by_cases h : s.e = 0
  · exact hl h
  · rw [hd ⟨hg.nil h, h⟩]
    exact hh
theorem held_fail {s : St} (x : Int) (h : s.e = 0) : Held (failS x s) := by
  unfold failS
  split
  · exact fun he => absurd h he
  · exact fun _ => rfl
theorem held_pass {s : St} (k : Nat) (h : s.e = 0) : Held (passS k s) := fun he => absurd h he
theorem held_settle {s : St} (x k e0 : Nat) (h : s.e = 0) : Held (settleS x k e0 s).2 := by
  unfold settleS
  split
  · exact held_fail _ h
  · exact held_pass _ h
theorem Held.fail {s : St} (hg : Good s) (hh : Held s) (x : Int) : Held (failS x s) := Held.turn hg hh (fun d => d.fail x) (held_fail x)
theorem Held.byte {s : St} (hg : Good s) (hh : Held s) : Held (byteS s).2 := Held.turn hg hh (fun d => by rw [d.byte]) (fun h => by
  unfold byteS
  split
  · exact held_fail _ h
  · exact held_pass _ h)
theorem Held.num {s : St} (hg : Good s) (hh : Held s) (n : Int) : Held (numS n s).2 := Held.turn hg hh (fun d => by rw [d.num]) (held_settle _ _ _)
theorem Held.int {s : St} (hg : Good s) (hh : Held s) : Held (intS s).2 := Held.turn hg hh (fun d => by rw [d.int]) (held_settle _ _ _)
theorem Held.take {s : St} (hg : Good s) (hh : Held s) (n : Int) : Held (takeS n s).2 := Held.turn hg hh (fun d => by rw [d.take]) (fun h => by
  unfold takeS
  split
  · exact held_fail _ h
  · exact held_pass _ h)

/-- two cursors, the second as f says of the first; nothing else has turned -/
def Both (t1 t2 : TypeId) (S : Nat → Prop) (c d : Nat) (f : St → St) (w w' : World) : Prop :=
  ∃ s, IsC t1 S w' c s ∧ IsC t2 S w' d (f s) ∧ Good s ∧ Good (f s) ∧ Held s ∧ Kept S w w'

theorem both_step {t1 t2 : TypeId} {S : Nat → Prop} {c d : Nat} {f : St → St} {w0 w w1 w2 : World} {s : St} (hcd : ¬ d = c) (hc : S c) (hd : S d) (k0 : Kept S w0 w) (g1 : Good s) (g2 : Good (f s)) (hh : Held s)
    (i1 : IsC t1 S w1 c s) (k1 : Kept (fun k => k = c) w w1) (i2 : IsC t2 S w2 d (f s)) (k2 : Kept (fun k => k = d) w1 w2) : Both t1 t2 S c d f w0 w2 :=
  ⟨s, i1.kept k2 (fun _ e => e ▸ hd) (fun e => hcd e.symm), i2, g1, g2, hh, k0.trans ((k1.mono (fun _ e => e ▸ hc)).trans (k2.mono (fun _ e => e ▸ hd)))⟩

/-- the same, at another place -/
def shiftS (a : Int) (s : St) : St := ⟨s.bs, s.p + a, s.e, if s.e = 0 then s.q else s.q + a⟩
theorem shift_fail (a x : Int) (s : St) : failS x (shiftS a s) = shiftS a (failS x s) := by
  unfold failS
  by_cases h : x = 0 ∨ s.e ≠ 0
  · rw [if_pos (show x = 0 ∨ (shiftS a s).e ≠ 0 from h), if_pos h]
  · rw [if_neg (show ¬ (x = 0 ∨ (shiftS a s).e ≠ 0) from h), if_neg h]
    have hx : ¬ x = 0 := fun e => h (.inl e)
    simp [shiftS, hx]
theorem shift_pass (a : Int) (k : Nat) (s : St) : passS k (shiftS a s) = shiftS a (passS k s) := by
  simp only [passS, shiftS, St.mk.injEq, true_and]
  omega
theorem shift_byte (a : Int) (s : St) : byteS (shiftS a s) = ((byteS s).1, shiftS a (byteS s).2) := by
  unfold byteS
  by_cases h : s.bs = []
  · rw [if_pos (show (shiftS a s).bs = [] from h), if_pos h, shift_fail]
  · rw [if_neg (show ¬ (shiftS a s).bs = [] from h), if_neg h, shift_pass]
    rfl
theorem shift_settle (a : Int) (x k e0 : Nat) (s : St) : settleS x k e0 (shiftS a s) = ((settleS x k e0 s).1, shiftS a (settleS x k e0 s).2) := by
  unfold settleS
  by_cases h : e0 ≠ 0
  · rw [if_pos h, if_pos h, shift_fail]
  · rw [if_neg h, if_neg h, shift_pass]
theorem shift_num (a n : Int) (s : St) : numS n (shiftS a s) = ((numS n s).1, shiftS a (numS n s).2) := shift_settle a _ _ _ s
theorem shift_int (a : Int) (s : St) : intS (shiftS a s) = ((intS s).1, shiftS a (intS s).2) := by
  have h := shift_settle a (takeN s.bs).1 (takeN s.bs).2.1 (takeN s.bs).2.2 s
  unfold intS
  show (zagN (settleS (takeN s.bs).1 (takeN s.bs).2.1 (takeN s.bs).2.2 (shiftS a s)).1, (settleS (takeN s.bs).1 (takeN s.bs).2.1 (takeN s.bs).2.2 (shiftS a s)).2) = _
  rw [h]
theorem shift_take (a n : Int) (s : St) : takeS n (shiftS a s) = ((takeS n s).1, shiftS a (takeS n s).2) := by
  unfold takeS
  by_cases h : n < 0 ∨ (s.bs.length : Int) < n
  · rw [if_pos (show n < 0 ∨ ((shiftS a s).bs.length : Int) < n from h), if_pos h, shift_fail]
  · rw [if_neg (show ¬ (n < 0 ∨ ((shiftS a s).bs.length : Int) < n) from h), if_neg h, shift_pass]
    rfl

section
variable {t : TypeId} {S : Nat → Prop} {g : Nat} {s s1 : St}
theorem byte_is (x : Int) (w : World) (h : IsC t S w g s) (hg : Good s) (hs : byteS s = (x, s1)) : Calls Try.prog 11 #[.pointer (some ⟨g, 0, none⟩)] w (Turns t S g (.int .u8 x) s1 w) := by
  have H := byte_any w h hg
  rw [hs] at H
  exact H
theorem num_is (n : Int) (x : Nat) (w : World) (h : IsC t S w g s) (hg : Good s) (hn : n < 9223372036854775808) (hs : numS n s = (x, s1)) : Calls Try.prog 13 #[.pointer (some ⟨g, 0, none⟩), .int .i64 n] w (Turns t S g (.int .i64 (x : Nat)) s1 w) := by
  have H := num_any n w h hg hn
  rw [hs] at H
  exact H
theorem int_is (x : Int) (w : World) (h : IsC t S w g s) (hg : Good s) (hs : intS s = (x, s1)) : Calls Try.prog 15 #[.pointer (some ⟨g, 0, none⟩)] w (Turns t S g (.int .i64 x) s1 w) := by
  have H := int_any w h hg
  rw [hs] at H
  exact H
theorem took_is {xs : List Int} {N : Nat} {w : World} {e : Ending} {w' : World} (h : Took t S g xs s1 w e w') (hN : xs.length = N) :
    ∃ A cap, Turns t S g (.slice A N cap) s1 w e w' ∧ Nums .u8 w' w'.heap.size A xs ∧ (∀ a, A = some a → w.heap.size ≤ a.block) := by
  subst hN
  obtain ⟨v, ho, ht⟩ := h
  obtain ⟨A, cap, rfl, _, hN, _⟩ := own_nums ho
  exact ⟨A, cap, ht, hN, fun a ha => (ho.lt a.block (by rw [ha]; rfl)).1⟩
theorem taken_is (n : Int) (xs : List Int) (N : Nat) (w : World) (h : IsC t S w g s) (hg : Good s) (hs : takeS n s = (xs, s1)) (hN : xs.length = N) :
    Calls Try.prog 17 #[.pointer (some ⟨g, 0, none⟩), .int .i64 n] w (fun e w' => ∃ A cap, Turns t S g (.slice A N cap) s1 w e w' ∧ Nums .u8 w' w'.heap.size A xs ∧ (∀ a, A = some a → w.heap.size ≤ a.block)) := by
  have H := take_c n w h hg
  rw [hs] at H
  exact H.mono fun e w' hk => took_is hk hN
end

/-- bytes that were answered are still there, if what turns lies elsewhere -/
theorem conv_kept {S : Nat → Prop} {w w' wg : World} {A : Option Addr} {xs : List Int} {N cap : Nat} (h : Nums .u8 w' w'.heap.size A xs) (ha : ∀ a, A = some a → w.heap.size ≤ a.block) (hS : ∀ k, S k → k < w.heap.size) (hk : Kept S w' wg) (hN : xs.length = N) :
    (convert 22 9 (.slice A N cap)).run Try.prog wg = .ok (.string (strOfNums xs)) wg := by
  subst hN
  exact conv_any cap (h.kept (S := S) (fun a e x => by have := ha a e; have := hS _ x; omega) hk (Nat.le_refl _)) rfl
end Go.Proofs.Yteijplolmpffmaa
