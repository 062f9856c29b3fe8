/-
  How great an array is by its numbers; an array in one of no shape. Nothing is claimed here by itself.
-/
import Derived.Test.YtfdlngcaopcaoaaLMath
import Derived.Test.YtfdlngcaopcaoaaNest
import Derived.Test.YtfdlngcaopcaoaaFew
namespace Go.Proofs.Ytfdlngcaopcaoaa
set_option linter.unusedVariables false
set_option linter.unusedSimpArgs false

theorem ok_tot {n : Nd} (h : okB n = true) : (n.kind = 5 ∧ n.ints.length + n.decs.length = 0 ∧ kc n = cnt n.shp) ∨ (n.kind ≠ 5 ∧ n.ints.length + n.decs.length = cnt n.shp ∧ kc n = 0) := by
  simp only [okB, Bool.and_eq_true] at h
  have hf := h.2
  unfold fillB at hf
  by_cases h5 : n.kind = 5
  · left
    rw [h5] at hf
    simp at hf
    exact ⟨h5, by rw [hf.1, hf.2]; rfl, by simp [kc, h5]⟩
  · right
    refine ⟨h5, ?_, by simp [kc, h5]⟩
    by_cases h1 : n.kind = 1
    · simp [h1] at hf; rw [hf.1.1, hf.1.2]; rfl
    · by_cases h2 : n.kind = 2
      · simp [h2] at hf; rw [hf.1, hf.2]; rfl
      · by_cases h3 : n.kind = 3
        · simp [h3] at hf; rw [hf.1.1, hf.1.2]; rfl
        · by_cases h4 : n.kind = 4
          · simp [h4] at hf; rw [hf.1.1, hf.1.2]; simp
          · simp [h1, h2, h3, h4, h5] at hf
theorem parK_tot {f : List Nd → Option St} (hf : ∀ l s, f l = some s → s.i + 1 = tot (l.take s.n) + s.n) : ∀ {c : Nat} {l : List Nd} {t : St}, parK f c l = some t → t.i + c = tot (l.take t.n) + t.n
  | 0, l, t, h => by rw [parK_zero] at h; cases h; rfl
  | c + 1, l, t, h => by
    obtain ⟨a, b, ha, hb, rfl⟩ := parK_some h
    have h1 := parK_tot hf ha
    have h2 := hf _ _ hb
    have h3 : tot (l.take (a.n + b.n)) = tot (l.take a.n) + tot ((l.drop a.n).take b.n) := by rw [← tot_app, ← List.take_add]
    simp only [St.plus]
    rw [h3]
    omega
theorem par_tot : ∀ {d : Nat} {l : List Nd} {s : St}, par d l = some s → s.i + 1 = tot (l.take s.n) + s.n
  | 0, l, s, h => by cases h
  | d + 1, l, s, h => by
    obtain ⟨e, n, l', t, he, rfl, hn, ht, rfl⟩ := par_parts h
    obtain rfl : d = e := by omega
    have h1 := parK_tot (fun l s h => par_tot h) ht
    simp only [top, List.take_succ_cons, tot]
    rcases ok_tot hn with ⟨_, h2, h3⟩ | ⟨_, h2, h3⟩
    · rw [h3] at h1; omega
    · rw [h3] at h1; omega
theorem few_items {ns : List Nd} (h : fewB ns = true) (hr : rightA ns = true) : (ws ns).i ≤ 1100 := by
  obtain ⟨s, hs⟩ := right_some hr
  obtain ⟨hp, hi, hn⟩ := whl_some hs
  have h1 := par_tot hp
  have hl := few_len h
  simp only [fewB, Bool.and_eq_true, decide_eq_true_eq] at h
  rw [List.take_of_length_le (by omega : ns.length ≤ 200)] at h
  rw [hn, List.take_length] at h1
  rw [ws_some hs]
  omega
theorem nest_one {ns : List Nd} (hr : rightA ns = true) (hi : (ws ns).i ≤ 2000) : nestB [] [ns] = decide ((ws ns).d < 16) := by
  have e1 : okB (nest5 []) = true := by decide +kernel
  have e2 : itm (nest5 []) = 1 := by decide +kernel
  have e3 : 1 + (ws ns).i ≤ 1048576 := by omega
  simp [nestB, e1, e2, holdK, holdB1, hr, e3]
theorem flat_one (ns : List Nd) : flatK [ns] = ns := by simp [flatK]
theorem nest_whole {ns : List Nd} (hr : rightA ns = true) (hd : (ws ns).d < 16) (hi : (ws ns).i ≤ 2000) : whlD (nest5 [] :: ns) = some (top (nest5 []) (ws ns)) := by
  obtain ⟨s, hs⟩ := right_some hr
  obtain ⟨hp, _, hn⟩ := whl_some hs
  rw [ws_some hs] at hd hi ⊢
  have e1 : okB (nest5 []) = true := by decide +kernel
  have e2 : kc (nest5 []) = 1 := by decide +kernel
  have e3 : cnt (nest5 []).shp = 1 := by decide +kernel
  have h15 := par_depth hp 15 (by omega)
  have hk : parK (par 15) 1 ns = some s := by
    have := parK_mk (f := par 15) (j := 0) (l := ns) (a := st0) (b := s) rfl (by simpa [st0] using h15)
    rwa [zero_plus] at this
  refine whl_mk (par_mk e1 (by rw [e2]; exact hk)) ?_ ?_
  · simp only [top]; omega
  · simp only [top, List.length_cons]; omega
end Go.Proofs.Ytfdlngcaopcaoaa
