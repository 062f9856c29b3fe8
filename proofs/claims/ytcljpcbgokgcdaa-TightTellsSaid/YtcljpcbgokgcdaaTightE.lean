/-
  The tight form, case by case, as the document's own form makes it. Nothing is claimed here by itself.
-/
import Derived.Test.YtcljpcbgokgcdaaTightD
namespace Go.Proofs.Ytcljpcbgokgcdaa
set_option linter.unusedVariables false
set_option linter.unusedSimpArgs false

theorem form_sign {xs : List Nd} (hr : rightA xs = true) (hf : Fine xs) (hk : (xs.getD 0 nd0).kind = 3) : formA xs = xs := by
  obtain ⟨n, l', ks, rfl, hok, he, _, hl⟩ := right_form hr hf
  have hk' : n.kind = 3 := hk
  obtain ⟨e1, e2⟩ := hl (by rw [hk']; decide)
  subst e1 e2
  rw [he, leaf_form (by rw [hk']; decide), if_pos hk']
theorem form_leaf {xs : List Nd} (hr : rightA xs = true) (hf : Fine xs) (h3 : (xs.getD 0 nd0).kind ≠ 3) (h5 : (xs.getD 0 nd0).kind ≠ 5) :
    formA xs = [leastN (xs.getD 0 nd0).shp (valsR (xs.getD 0 nd0))] ∧ numO (xs.getD 0 nd0).shp (valsR (xs.getD 0 nd0)) = some (leastN (xs.getD 0 nd0).shp (valsR (xs.getD 0 nd0))) ∧ (∀ x ∈ valsR (xs.getD 0 nd0), In x.1 ∧ In x.2) ∧ (valsR (xs.getD 0 nd0)).length ≤ 1100000 := by
  obtain ⟨n, l', ks, rfl, hok, he, _, hl⟩ := right_form hr hf
  have e : (n :: l').getD 0 nd0 = n := rfl
  rw [e] at h3 h5 ⊢
  obtain ⟨hfit, hin, _⟩ := hf.cons
  obtain ⟨j1, j2, j3, j4⟩ := vals_ok hok h3 hfit hin
  rw [valsR_ok hok h3]
  refine ⟨by rw [he, leaf_form h5, if_neg h3], ?_, j2, j3⟩
  unfold numO
  rw [if_pos ⟨(ok_right hok).1, j4 h5, j1⟩]
theorem form_none {xs : List Nd} (hr : rightA xs = true) (hf : Fine xs) (h5 : (xs.getD 0 nd0).kind = 5) (hk : kidsA xs = []) :
    formA xs = [leastN (xs.getD 0 nd0).shp (valsR (xs.getD 0 nd0))] ∧ numO (xs.getD 0 nd0).shp (valsR (xs.getD 0 nd0)) = some (leastN (xs.getD 0 nd0).shp (valsR (xs.getD 0 nd0))) ∧ (∀ x ∈ valsR (xs.getD 0 nd0), In x.1 ∧ In x.2) ∧ (valsR (xs.getD 0 nd0)).length ≤ 1100000 := by
  obtain ⟨q1, q2, q3, q4, q5, q6⟩ := kids_nest hr h5
  rw [hk] at q1 q5 q6
  obtain ⟨k1, k2, k3⟩ := nest_form q6
  have hok := (nest_facts q6).1
  generalize hs : (xs.getD 0 nd0).shp = sh at *
  have hv : valsR (xs.getD 0 nd0) = [] := by rw [← q5]; rfl
  rw [hv]
  refine ⟨?_, ?_, (fun x hx => by cases hx), Nat.zero_le _⟩
  · rw [← q5, k2]
    rfl
  · unfold numO
    rw [if_pos ⟨(ok_right hok).1, q1.symm, rfl⟩]
theorem isum_mem : ∀ {ks : List (List Nd)} {k : List Nd}, k ∈ ks → (ws k).d ≤ dmax ks
  | q :: ks, k, h => by
    rcases List.mem_cons.1 h with rfl | h
    · simp only [dmax]; omega
    · have := isum_mem h
      simp only [dmax]; omega
theorem fine_mem : ∀ {ks : List (List Nd)}, Fine (flatK ks) → ∀ k ∈ ks, Fine k
  | [], _, k, hk => by cases hk
  | q :: ks, h, k, hk => by
    have h1 : Fine q := by
      have := h.take q.length
      rwa [show flatK (q :: ks) = q ++ flatK ks from rfl, List.take_left] at this
    have h2 : Fine (flatK ks) := by
      have := h.drop q.length
      rwa [show flatK (q :: ks) = q ++ flatK ks from rfl, List.drop_left] at this
    rcases List.mem_cons.1 hk with rfl | hk
    · exact h1
    · exact fine_mem h2 k hk
theorem form_nest {xs : List Nd} (hr : rightA xs = true) (hf : Fine xs) (h5 : (xs.getD 0 nd0).kind = 5) :
    (∀ k ∈ kidsA xs, rightA k = true ∧ Fine k ∧ (ws k).d + 1 ≤ (ws xs).d) ∧ Alr2 ((kidsA xs).map formA) ∧ (flatK (kidsA xs)).length + 1 = xs.length ∧ (flatK ((kidsA xs).map formA)).length ≤ (flatK (kidsA xs)).length ∧
    nest5 (xs.getD 0 nd0).shp = xs.getD 0 nd0 ∧ (kidsA xs).length = cnt (xs.getD 0 nd0).shp ∧ rightB (xs.getD 0 nd0).shp = true ∧
    (kidsA xs ≠ [] → formA xs = docK (nest5 (xs.getD 0 nd0).shp) ((kidsA xs).map formA)) := by
  obtain ⟨q1, q2, q3, q4, q5, q6⟩ := kids_nest hr h5
  obtain ⟨k1, k2, k3⟩ := nest_form q6
  have hok := (nest_facts q6).1
  generalize kidsA xs = ks at *
  have hn : xs.getD 0 nd0 = nest5 (xs.getD 0 nd0).shp := congrArg (fun l => List.getD l 0 nd0) q5.symm
  generalize (xs.getD 0 nd0).shp = sh at *
  have hfk : Fine (flatK ks) := by
    have := hf.drop 1
    rw [← q5] at this
    exact this
  have hfm := fine_mem hfk
  have hal : Alr2 (ks.map formA) := fun f hm => by
    obtain ⟨k, hk, rfl⟩ := List.mem_map.1 hm
    obtain ⟨j1, _, _, _, j5, _⟩ := form_right (q2 k hk) (hfm k hk)
    exact ⟨j1, j5⟩
  refine ⟨fun k hk => ⟨q2 k hk, hfm k hk, by rw [q4]; have := isum_mem hk; omega⟩, hal, by rw [← q5]; simp, ?_, hn.symm, q1, (ok_right hok).1, fun hne => ?_⟩
  · have : ∀ ks : List (List Nd), (∀ k ∈ ks, rightA k = true ∧ Fine k) → (flatK (ks.map formA)).length ≤ (flatK ks).length := fun ks h => by
      induction ks with
      | nil => exact Nat.le_refl _
      | cons k ks ih =>
        obtain ⟨h1, h2⟩ := h k (by simp)
        have := ih fun q hq => h q (by simp [hq])
        obtain ⟨_, j2, _⟩ := form_right h1 h2
        simp only [List.map_cons, flatK, List.length_append]
        omega
    exact this ks fun k hk => ⟨q2 k hk, hfm k hk⟩
  · rw [docK_is rfl (by simpa using hne) hal, ← k2, q5]
theorem num_docK {sh : List Int} {fs : List (List Nd)} (hs : rightB sh = true) (hc : fs.length = cnt sh) (hf : Alr2 fs) (h : (nbK fs).length = fs.length) : numO sh (nbK fs) = some (leastN sh (nbK fs)) ∧ ∀ x ∈ nbK fs, In x.1 ∧ In x.2 := by
  obtain ⟨b1, b2, b3⟩ := nb_cases hf
  obtain ⟨p, q, r⟩ := b2 h
  have hall : ∀ n ∈ flatK fs, okB n = true ∧ n.shp = [] ∧ n.kind ≠ 3 ∧ n.kind ≠ 5 ∧ Fit n ∧ ∀ x ∈ n.ints, In x := by
    clear b1 b2 b3 q r h hc
    induction fs with
    | nil => intro n hn; cases hn
    | cons f fs ih =>
      intro n hn
      rcases List.mem_append.1 hn with hn' | hn'
      · obtain ⟨hr, hff⟩ := hf f (by simp)
        obtain ⟨m, t, rfl, hok, hfit, hin, ht⟩ := right_head hr hff
        obtain ⟨pa, pb, pc⟩ := p m (List.mem_append.2 (.inl (by simp)))
        have := ht pc
        subst this
        rw [List.mem_singleton.1 hn']
        exact ⟨hok, pa, pb, pc, hfit, hin⟩
      · exact ih (fun q hq => hf q (by simp [hq])) (fun x hx => p x (List.mem_append.2 (.inr hx))) n hn'
  obtain ⟨v1, v2, v3⟩ := vals_len hall
  rw [← q] at v1 v2 v3
  exact ⟨by unfold numO; rw [if_pos ⟨hs, by omega, v2⟩], v3⟩
end Go.Proofs.Ytcljpcbgokgcdaa
