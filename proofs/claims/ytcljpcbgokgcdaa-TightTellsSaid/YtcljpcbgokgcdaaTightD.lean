/-
  The document's own form, as lists, is the tight form. Nothing is claimed here by itself.
-/
import Derived.Test.YtcljpcbgokgcdaaTightA
import Derived.Test.YtcljpcbgokgcdaaRValues
namespace Go.Proofs.Ytcljpcbgokgcdaa
set_option linter.unusedVariables false
set_option linter.unusedSimpArgs false

theorem valsR_ok {n : Nd} (h : okB n = true) (hk : n.kind ≠ 3) : valsR n = valsN n := by
  have hfl := (ok_right h).2
  have hz : n.ints = [] ∨ n.decs = [] := by
    unfold fillB at hfl
    by_cases h1 : n.kind = 1
    · simp [h1] at hfl; exact .inr hfl.1.2
    · by_cases h2 : n.kind = 2
      · simp [h2] at hfl; exact .inr hfl.2
      · by_cases h4 : n.kind = 4
        · simp [h4] at hfl; exact .inl hfl.1.1
        · by_cases h5 : n.kind = 5
          · simp [h5] at hfl; first | exact .inl hfl.1 | exact .inr hfl.2 | exact .inl hfl.1.1
          · simp [h1, h2, h4, h5, hk] at hfl
  rcases hz with h | h <;> simp [valsR, valsN, h]
def plainS (h : Nd) : Prop := h.shp = [] ∧ h.kind = 3
def plainN (h : Nd) : Prop := h.shp = [] ∧ h.kind ≠ 3 ∧ h.kind ≠ 5
instance (h : Nd) : Decidable (plainS h) := inferInstanceAs (Decidable (_ ∧ _))
instance (h : Nd) : Decidable (plainN h) := inferInstanceAs (Decidable (_ ∧ _ ∧ _))
def sgs (h : Nd) : List Int := if plainS h then h.ints else []
def nbs (h : Nd) : List (Int × Int) := if plainN h then valsR h else []
def sgK : List (List Nd) → List Int
  | [] => []
  | f :: fs => sgs (f.getD 0 nd0) ++ sgK fs
def nbK : List (List Nd) → List (Int × Int)
  | [] => []
  | f :: fs => nbs (f.getD 0 nd0) ++ nbK fs
def docK (n : Nd) (fs : List (List Nd)) : List Nd :=
  if (sgK fs).length = fs.length then [⟨3, n.shp, sgK fs, []⟩] else if (nbK fs).length = fs.length then [leastN n.shp (nbK fs)] else n :: flatK fs

theorem right_head {f : List Nd} (hr : rightA f = true) (hf : Fine f) : ∃ h t, f = h :: t ∧ okB h = true ∧ Fit h ∧ (∀ x ∈ h.ints, In x) ∧ (h.kind ≠ 5 → t = []) := by
  obtain ⟨n, l', ks, rfl, hok, _, _, hk⟩ := right_form hr hf
  obtain ⟨h1, h2, _⟩ := hf.cons
  exact ⟨n, l', rfl, hok, h1, h2, fun h => (hk h).1⟩
def Alr2 (fs : List (List Nd)) : Prop := ∀ f ∈ fs, rightA f = true ∧ Fine f
theorem sg_cases : ∀ {fs : List (List Nd)}, Alr2 fs → (sgK fs).length ≤ fs.length ∧ ((sgK fs).length = fs.length → (∀ x ∈ flatK fs, plainS x) ∧ sgK fs = intsK (flatK fs) ∧ (flatK fs).length = fs.length) ∧ ((∀ x ∈ flatK fs, plainS x) → (sgK fs).length = fs.length)
  | [], _ => ⟨Nat.le_refl _, fun _ => ⟨fun x hx => (by cases hx), rfl, rfl⟩, fun _ => rfl⟩
  | f :: fs, h => by
    obtain ⟨i1, i2, i3⟩ := sg_cases (fs := fs) fun q hq => h q (by simp [hq])
    obtain ⟨hr, hf⟩ := h f (by simp)
    obtain ⟨n, t, rfl, hok, hfit, hin, ht⟩ := right_head hr hf
    have e : sgK ((n :: t) :: fs) = sgs n ++ sgK fs := rfl
    by_cases hp : plainS n
    · have ht' := ht (by rw [hp.2]; decide)
      subst ht'
      have hl := (ints_one hok hp.1 hp.2).1
      have e2 : sgs n = n.ints := if_pos hp
      rw [e, e2]
      refine ⟨by simp only [List.length_append, List.length_cons]; omega, fun hq => ?_, fun hq => ?_⟩
      · obtain ⟨j1, j2, j3⟩ := i2 (by simp only [List.length_append, List.length_cons] at hq; omega)
        refine ⟨fun x hx => ?_, by rw [j2]; rfl, by simp only [flatK, List.length_append, List.length_cons, List.length_nil]; omega⟩
        rcases List.mem_append.1 hx with hx | hx
        · rw [List.mem_singleton.1 hx]; exact hp
        · exact j1 x hx
      · have := i3 fun x hx => hq x (List.mem_append.2 (.inr hx))
        simp only [List.length_append, List.length_cons]; omega
    · have e2 : sgs n = [] := if_neg hp
      rw [e, e2, List.nil_append]
      refine ⟨by simp only [List.length_cons]; omega, fun hq => ?_, fun hq => absurd (hq n (List.mem_append.2 (.inl (by simp)))) hp⟩
      simp only [List.length_cons] at hq
      omega
theorem nb_cases : ∀ {fs : List (List Nd)}, Alr2 fs → (nbK fs).length ≤ fs.length ∧ ((nbK fs).length = fs.length → (∀ x ∈ flatK fs, plainN x) ∧ nbK fs = valsK (flatK fs) ∧ (flatK fs).length = fs.length) ∧ ((∀ x ∈ flatK fs, plainN x) → (nbK fs).length = fs.length)
  | [], _ => ⟨Nat.le_refl _, fun _ => ⟨fun x hx => (by cases hx), rfl, rfl⟩, fun _ => rfl⟩
  | f :: fs, h => by
    obtain ⟨i1, i2, i3⟩ := nb_cases (fs := fs) fun q hq => h q (by simp [hq])
    obtain ⟨hr, hf⟩ := h f (by simp)
    obtain ⟨n, t, rfl, hok, hfit, hin, ht⟩ := right_head hr hf
    have e : nbK ((n :: t) :: fs) = nbs n ++ nbK fs := rfl
    by_cases hp : plainN n
    · have ht' := ht hp.2.2
      subst ht'
      have hv := valsR_ok hok hp.2.1
      have hl : (valsN n).length = 1 := by
        have := (vals_ok hok hp.2.1 hfit hin).2.2.2 hp.2.2
        rw [hp.1, show cnt [] = 1 by decide] at this
        exact this.symm
      have e2 : nbs n = valsN n := by rw [← hv]; exact if_pos hp
      rw [e, e2]
      refine ⟨by simp only [List.length_append, List.length_cons]; omega, fun hq => ?_, fun hq => ?_⟩
      · obtain ⟨j1, j2, j3⟩ := i2 (by simp only [List.length_append, List.length_cons] at hq; omega)
        refine ⟨fun x hx => ?_, by rw [j2]; rfl, by simp only [flatK, List.length_append, List.length_cons, List.length_nil]; omega⟩
        rcases List.mem_append.1 hx with hx | hx
        · rw [List.mem_singleton.1 hx]; exact hp
        · exact j1 x hx
      · have := i3 fun x hx => hq x (List.mem_append.2 (.inr hx))
        simp only [List.length_append, List.length_cons]; omega
    · have e2 : nbs n = [] := if_neg hp
      rw [e, e2, List.nil_append]
      refine ⟨by simp only [List.length_cons]; omega, fun hq => ?_, fun hq => absurd (hq n (List.mem_append.2 (.inl (by simp)))) hp⟩
      simp only [List.length_cons] at hq
      omega
theorem docK_is {n : Nd} {fs : List (List Nd)} (hk : n.kind = 5) (hne : fs ≠ []) (hf : Alr2 fs) : docK n fs = clos n (flatK fs) := by
  obtain ⟨a1, a2, a3⟩ := sg_cases hf
  obtain ⟨b1, b2, b3⟩ := nb_cases hf
  have hpos : 0 < fs.length := List.length_pos_iff.2 hne
  have e : foldO n (flatK fs) = joinO n.shp (flatK fs) := by unfold foldO; rw [if_neg (by rw [hk]; decide), if_pos hk]
  unfold docK clos
  rw [e]
  generalize hK : flatK fs = K at *
  by_cases h1 : (sgK fs).length = fs.length
  · obtain ⟨p, q, r⟩ := a2 h1
    obtain ⟨x, K', rfl⟩ : ∃ x K', K = x :: K' := by
      cases K with
      | nil => simp at r; omega
      | cons x K' => exact ⟨x, K', rfl⟩
    have hd : (x :: K').any deepB = false := by
      rw [List.any_eq_false]; intro y hy; obtain ⟨u, v⟩ := p y hy; simp [deepB, u, v]
    have hn : (x :: K').any numN = false := by
      rw [List.any_eq_false]; intro y hy; obtain ⟨u, v⟩ := p y hy; simp [numN, signN, v]
    have hs : (x :: K').any signN = true := by
      rw [List.any_eq_true]; exact ⟨x, by simp, by have := (p x (by simp)).2; simp [signN, this]⟩
    rw [if_pos h1, q]
    simp [joinO, hd, hn, hs]
  · rw [if_neg h1]
    by_cases h2 : (nbK fs).length = fs.length
    · obtain ⟨p, q, r⟩ := b2 h2
      have hd : K.any deepB = false := by
        rw [List.any_eq_false]; intro y hy; obtain ⟨u, _, v⟩ := p y hy; simp [deepB, u, v]
      have hs : K.any signN = false := by
        rw [List.any_eq_false]; intro y hy; obtain ⟨_, u, v⟩ := p y hy; simp [signN, u]
      rw [if_pos h2, q]
      simp [joinO, hd, hs]
    · rw [if_neg h2]
      have h3 : ¬ ∀ x ∈ K, plainS x := fun h => h1 (a3 h)
      have h4 : ¬ ∀ x ∈ K, plainN x := fun h => h2 (b3 h)
      have hj : joinO n.shp K = none := by
        unfold joinO
        rw [if_pos]
        cases hd : K.any deepB with
        | true => rfl
        | false =>
          have hdd : ∀ x ∈ K, x.kind ≠ 5 ∧ x.shp = [] := fun x hx => not_deep (by have := List.any_eq_false.1 hd x hx; simpa using this)
          simp only [Bool.false_or, Bool.and_eq_true, List.any_eq_true]
          simp only [Classical.not_forall] at h3 h4
          obtain ⟨x, hx, hx3⟩ := h3
          obtain ⟨y, hy, hy4⟩ := h4
          refine ⟨⟨y, hy, ?_⟩, ⟨x, hx, ?_⟩⟩
          · have : y.kind = 3 := Classical.byContradiction fun h => hy4 ⟨(hdd y hy).2, h, (hdd y hy).1⟩
            simp [signN, this]
          · have : x.kind ≠ 3 := fun h => hx3 ⟨(hdd x hx).2, h⟩
            simp [numN, signN, this]
      rw [hj]
end Go.Proofs.Ytcljpcbgokgcdaa
