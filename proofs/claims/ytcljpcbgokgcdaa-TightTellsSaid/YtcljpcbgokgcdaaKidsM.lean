/-
  The kids of an array, as lists. Nothing is claimed here by itself.
-/
import Derived.Test.YtcljpcbgokgcdaaBase
namespace Go.Proofs.Ytcljpcbgokgcdaa
set_option linter.unusedVariables false
set_option linter.unusedSimpArgs false

/-- rows that stand one behind the other, each a right array -/
def kd (l : List Nd) : List (List Nd) := if h : l = [] ∨ takeA l = 0 then [] else l.take (takeA l) :: kd (l.drop (takeA l))
  termination_by l.length
  decreasing_by
    have h1 : l ≠ [] := fun e => h (.inl e)
    have h2 : takeA l ≠ 0 := fun e => h (.inr e)
    have h3 : 0 < l.length := List.length_pos_iff.2 h1
    rw [List.length_drop]
    omega
theorem kd_nil : kd [] = [] := by rw [kd]; simp
theorem kd_step {l : List Nd} (h : l ≠ []) (h0 : takeA l ≠ 0) : kd l = l.take (takeA l) :: kd (l.drop (takeA l)) := by
  rw [kd]
  simp [h, h0]
/-- all of l are arrays of depth 15 at most, together not too great -/
def Kidsy (l : List Nd) : Prop := ∃ c t, parK (par 15) c l = some t ∧ t.n = l.length ∧ t.i ≤ 1048576
theorem Kidsy.step {l : List Nd} (h : Kidsy l) (hl : l ≠ []) : ∃ s, par 15 l = some s ∧ fstD l = some s ∧ takeA l = s.n ∧ 1 ≤ s.n ∧ s.n ≤ l.length ∧ Kidsy (l.drop s.n) := by
  obtain ⟨c, t, hp, hn, hi⟩ := h
  have hpos : 0 < l.length := List.length_pos_iff.2 hl
  cases c with
  | zero => rw [parK_zero] at hp; cases hp; simp [st0] at hn; omega
  | succ c =>
    obtain ⟨a, b, ha, hb, rfl⟩ := parK_cons hp
    have hlen := par_len ha
    have h16 : par 16 l = some a := par_depth ha 16 (by omega)
    have hai : a.i ≤ 1048576 := by simp only [St.plus] at hi; omega
    have hf := fst_mk h16 hai
    refine ⟨a, ha, hf, by unfold takeA; rw [fs_some hf], hlen.1, hlen.2.1, c, b, hb, ?_, ?_⟩
    · rw [List.length_drop]; simp only [St.plus] at hn; omega
    · simp only [St.plus] at hi; omega
/-- a right array: its first node, and its kids -/
theorem right_parts {l : List Nd} {s : St} (h : whlD l = some s) : ∃ n l' t, l = n :: l' ∧ okB n = true ∧ parK (par 15) (kc n) l' = some t ∧ s = top n t ∧ t.n = l'.length ∧ s.i ≤ 1048576 := by
  obtain ⟨hp, hi, hn⟩ := whl_some h
  obtain ⟨e, n, l', t, he, rfl, hok, ht, rfl⟩ := par_parts hp
  obtain rfl : e = 15 := by omega
  refine ⟨n, l', t, rfl, hok, ht, rfl, ?_, hi⟩
  simp only [top, List.length_cons] at hn
  omega
theorem right_kidsy {l : List Nd} (h : rightA l = true) : l ≠ [] ∧ Kidsy (l.drop 1) := by
  obtain ⟨s, hs⟩ := right_some h
  obtain ⟨n, l', t, rfl, hok, ht, rfl, hn, hi⟩ := right_parts hs
  refine ⟨by simp, kc n, t, ht, hn, ?_⟩
  simp only [top] at hi
  omega
def kidsA (l : List Nd) : List (List Nd) := if rightA l = true then kd (l.drop 1) else []
end Go.Proofs.Ytcljpcbgokgcdaa
