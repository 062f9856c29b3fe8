/-
  What follows of names, as plain functions. Nothing is claimed here by itself.
-/
import Derived.Test.YtcnijmmpkahoaaaDoorSets
namespace Go.Proofs.YtcnijmmpkahoaaaDoor
set_option linter.unusedSimpArgs false
set_option linter.unusedVariables false

theorem taken_zero {l : List UInt8} (h : begW l = 0) : takenD l = 0 := by unfold takenD; rw [if_pos h]
theorem taken_run {l : List UInt8} (h : begW l ≠ 0) : takenD l = run l := by unfold takenD; rw [if_neg h]
theorem beg_run {l : List UInt8} (h : begW l ≠ 0) : begW l ≤ run l := by
  rw [run_step, if_neg (by rw [(beg_go h).1]; exact h), (beg_go h).1]
  omega
/-- what is taken is taken whole -/
theorem taken_self (l : List UInt8) : takenD (l.take (takenD l)) = takenD l := by
  by_cases h : begW l = 0
  · rw [taken_zero h, List.take_zero]; decide
  · rw [taken_run h, taken_run (by rw [beg_take h (beg_run h)]; exact h)]
    exact (run_take l).1
theorem taken_both (l : List UInt8) : (l.take (takenD l)).take (takenD (l.take (takenD l))) = l.take (takenD l) ∧ (l.take (takenD l)).drop (takenD (l.take (takenD l))) = [] := by
  rw [taken_self]
  have := taken_le l
  exact ⟨List.take_of_length_le (by rw [List.length_take]; omega), List.drop_of_length_le (by rw [List.length_take]; omega)⟩
/-- behind it nothing goes on -/
theorem taken_rest {l : List UInt8} (h : takenD l ≠ 0) : (97 :: l.drop (takenD l)).take (takenD (97 :: l.drop (takenD l))) = [97] := by
  have hb : begW l ≠ 0 := fun e => h (taken_zero e)
  have h97 : begB 97 = true := by decide
  have hz : goW (l.drop (takenD l)) = 0 := by rw [taken_run hb]; exact (run_take l).2.2
  have hs : SignOf [97] := ⟨by simp, fun r => (beg_byte h97 r).2⟩
  have e := (sign_step hs (l.drop (takenD l))).1
  rw [(run_zero hz).1] at e
  have e1 : takenD (97 :: l.drop (takenD l)) = 1 := by
    rw [taken_run (by rw [(beg_byte h97 _).1]; decide)]
    exact e
  rw [e1]
  rfl
theorem right_taken {l : List UInt8} (h : rightD l = true) : takenD l = l.length ∧ l ≠ [] := by
  obtain ⟨h1, h2, h3⟩ := right_iff.1 h
  refine ⟨by rw [taken_run h1, h2], fun e => ?_⟩
  subst e
  exact h1 beg_nil
theorem right_take {l : List UInt8} (h : takenD l ≠ 0) (hl : takenD l ≤ 32) : rightD (l.take (takenD l)) = true := by
  have hb : begW l ≠ 0 := fun e => h (taken_zero e)
  rw [taken_run hb] at hl ⊢
  have hr := run_take l
  have hle := run_le l
  rw [right_iff]
  refine ⟨by rw [beg_take hb (beg_run hb)]; exact hb, ?_, by omega⟩
  rw [hr.1, List.length_take]
  omega

/-! ### one sign more -/
def onB (b : UInt8) : Bool := begB b || digB b
theorem one_on {b : UInt8} (h : onB b = true) : run [b] = 1 ∧ cnt [b] = 1 := by
  have hs : SignOf [b] := by
    refine ⟨by simp, fun r => ?_⟩
    rcases Bool.or_eq_true _ _ ▸ h with h | h
    · exact (beg_byte h r).2
    · exact go_dig h r
  obtain ⟨h1, h2⟩ := sign_step hs []
  have z := run_zero go_nil
  rw [z.1] at h1
  rw [z.2] at h2
  exact ⟨h1, h2⟩
theorem one_off {b : UInt8} (h : onB b = false) : run [b] = 0 := by
  obtain ⟨h1, h2⟩ := Bool.or_eq_false_iff.1 h
  have hz : goW [b] = 0 := by
    rcases go_cases [b] with h0 | ⟨c, r, e, hb⟩ | ⟨r, e⟩ | ⟨c, r, e, hb⟩ | ⟨r, e⟩ | ⟨r, e⟩
    · exact h0.1
    · injection e with e1 e2
      subst e1
      rw [h2] at hb
      cases hb
    · simp at e
    · injection e with e1 e2
      subst e1
      rw [h1] at hb
      cases hb
    · simp at e
    · simp at e
  exact (run_zero hz).1
theorem right_more {l : List UInt8} {b : UInt8} (h : rightD l = true) (hb : onB b = true) (hl : l.length < 32) : rightD (l ++ [b]) = true := by
  obtain ⟨h1, h2, h3⟩ := right_iff.1 h
  have ha := run_app h2 [b]
  have ho := one_on hb
  have hle := run_le l
  rw [right_iff]
  refine ⟨by rw [(beg_go h1).2]; exact h1, ?_, by omega⟩
  rw [ha.1, ho.1, List.length_append]
  rfl
theorem right_less {l : List UInt8} {b : UInt8} (h : rightD l = true) (hb : onB b = false) : rightD (l ++ [b]) = false := by
  obtain ⟨h1, h2, h3⟩ := right_iff.1 h
  rw [Bool.eq_false_iff, ne_eq, right_iff]
  rintro ⟨_, e, _⟩
  rw [(run_app h2 [b]).1, one_off hb, List.length_append] at e
  simp at e

/-! ### texts that are unlike -/
theorem apart_rev {ls : List (List UInt8)} : Apart ls.reverse ↔ Apart ls := by
  unfold Apart
  rw [List.pairwise_reverse]
  constructor <;> intro h <;> refine h.imp fun {a b} hab hne e => ?_
  · subst e; exact hab hne rfl
  · subst e; exact hab hne rfl
theorem unl_rev (ls : List (List UInt8)) : unlB ls.reverse = unlB ls := by rw [Bool.eq_iff_iff, unl_iff, unl_iff, apart_rev]
theorem unl_empty (ls : List (List UInt8)) : unlB (ls ++ [[]]) = unlB ls := by
  rw [Bool.eq_iff_iff, unl_iff, unl_iff]
  unfold Apart
  rw [List.pairwise_append]
  constructor
  · exact fun h => h.1
  · exact fun h => ⟨h, by simp, fun a _ b hb => by simp at hb; simp [hb]⟩
theorem unl_again {ls : List (List UInt8)} {k : Nat} (hk : k < ls.length) : unlB (ls ++ [ls.getD k []]) = (unlB ls && (ls.getD k []).isEmpty) := by
  have e : ls.getD k [] = ls[k] := by simp [List.getD, hk]
  rw [e]
  by_cases h0 : ls[k] = []
  · rw [h0, unl_empty]; simp
  · have hf : (ls[k]).isEmpty = false := by simpa using h0
    rw [hf, Bool.and_false, Bool.eq_false_iff, ne_eq, unl_iff]
    unfold Apart
    rw [List.pairwise_append]
    rintro ⟨_, _, h⟩
    exact h ls[k] (List.getElem_mem hk) ls[k] (by simp) h0 rfl
theorem unl_take {ls : List (List UInt8)} (h : unlB ls = true) (k : Nat) : unlB (ls.take k) = true := by
  rw [unl_iff] at h ⊢
  exact h.sublist (List.take_sublist _ _)
end Go.Proofs.YtcnijmmpkahoaaaDoor
