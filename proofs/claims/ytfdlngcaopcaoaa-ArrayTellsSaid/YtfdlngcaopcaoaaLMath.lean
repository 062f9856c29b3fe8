/-
  What the laws say, as mathematics. Nothing is claimed here by itself.
-/
import Derived.Test.YtfdlngcaopcaoaaKidsM
namespace Go.Proofs.Ytfdlngcaopcaoaa
set_option linter.unusedVariables false
set_option linter.unusedSimpArgs false

theorem take_some {l : List Nd} (h : 0 < takeA l) : ∃ s, fstD l = some s ∧ s.n = takeA l := by
  cases hf : fstD l with
  | none => unfold takeA at h; rw [fs_none hf] at h; simp [st0] at h
  | some s => exact ⟨s, rfl, by unfold takeA; rw [fs_some hf]⟩
theorem take_zero {l : List Nd} (h : fstD l = none) : takeA l = 0 := by unfold takeA; rw [fs_none h]; rfl
theorem take_le (l : List Nd) : takeA l ≤ l.length := by
  by_cases h : 0 < takeA l
  · obtain ⟨s, hs, hn⟩ := take_some h
    rw [← hn]
    exact (par_len (fst_some hs).1).2.1
  · omega
theorem take_right {l : List Nd} (h : 0 < takeA l) : rightA (l.take (takeA l)) = true := by
  obtain ⟨s, hs, hn⟩ := take_some h
  have hp := par_take (fst_some hs).1 (k := s.n) (Nat.le_refl _)
  have hl := (par_len (fst_some hs).1).2.1
  have hw := whl_mk hp (fst_some hs).2 (by rw [List.length_take]; omega)
  rw [hn] at hw
  unfold rightA
  rw [hw]
  rfl
theorem take_app {l : List Nd} (h : 0 < takeA l) (r : List Nd) : takeA (l ++ r) = takeA l := by
  obtain ⟨s, hs, hn⟩ := take_some h
  have hf := fst_mk (par_app (fst_some hs).1 r) (fst_some hs).2
  rw [← hn]
  unfold takeA
  rw [fs_some hf]
theorem take_short {l : List Nd} {i : Nat} (h : i < takeA l) : takeA (l.take i) = 0 := by
  obtain ⟨s, hs, hn⟩ := take_some (Nat.lt_of_le_of_lt (Nat.zero_le _) h)
  cases hf : fstD (l.take i) with
  | none => exact take_zero hf
  | some t =>
    exfalso
    obtain ⟨hp, hi⟩ := fst_some hf
    have hlt := (par_len hp).2.1
    rw [List.length_take] at hlt
    have := par_local hp l (by rw [List.take_take]; congr 1; omega)
    rw [(fst_some hs).1] at this
    cases this
    omega
theorem right_take {l : List Nd} (h : rightA l = true) : takeA l = l.length ∧ 0 < takeA l := by
  obtain ⟨s, hs⟩ := right_some h
  obtain ⟨hp, hi, hn⟩ := whl_some hs
  have hf := fst_mk hp hi
  have : takeA l = s.n := by unfold takeA; rw [fs_some hf]
  rw [this]
  exact ⟨hn, (par_len hp).1⟩
theorem right_short {l : List Nd} {i : Nat} (h : i < takeA l) : rightA (l.take i) = false := by
  rw [Bool.eq_false_iff]
  intro hr
  have := (right_take hr).2
  rw [take_short h] at this
  omega
theorem right_iff_take (l : List Nd) : rightA l = (decide (0 < takeA l) && decide (takeA l = l.length)) := by
  cases hr : rightA l with
  | true =>
    obtain ⟨h1, h2⟩ := right_take hr
    simp [h1]
    omega
  | false =>
    symm
    rw [Bool.and_eq_false_iff]
    by_cases h : 0 < takeA l
    · right
      rw [decide_eq_false_iff_not]
      intro he
      have := take_right h
      rw [he, List.take_length, hr] at this
      cases this
    · left
      exact decide_eq_false h
end Go.Proofs.Ytfdlngcaopcaoaa
