/-
  An array and its kids, as mathematics. Nothing is claimed here by itself.
-/
import Derived.Test.YtfdlngcaopcaoaaLMath2
import Derived.Test.YtfdlngcaopcaoaaKidsM
namespace Go.Proofs.Ytfdlngcaopcaoaa
set_option linter.unusedVariables false
set_option linter.unusedSimpArgs false

def dmax : List (List Nd) → Nat
  | [] => 0
  | k :: ks => max (ws k).d (dmax ks)
theorem isum_app (a b : List (List Nd)) : isum (a ++ b) = isum a + isum b := by
  induction a with
  | nil => simp [isum]
  | cons k a ih => simp only [List.cons_append, isum, ih]; omega
theorem dmax_app (a b : List (List Nd)) : dmax (a ++ b) = max (dmax a) (dmax b) := by
  induction a with
  | nil => simp [dmax]
  | cons k a ih => simp only [List.cons_append, dmax, ih]; omega
theorem take_kid {ks : List (List Nd)} {k : Nat} (h : k < ks.length) : ks.take (k + 1) = ks.take k ++ [ks.getD k []] := by
  rw [List.take_add_one]
  congr 1
  simp [List.getD, h]
theorem isum_step {ks : List (List Nd)} {k : Nat} (h : k < ks.length) : isum (ks.take (k + 1)) = isum (ks.take k) + (ws (ks.getD k [])).i := by
  rw [take_kid h, isum_app]; simp [isum]
theorem dmax_step {ks : List (List Nd)} {k : Nat} (h : k < ks.length) : dmax (ks.take (k + 1)) = max (dmax (ks.take k)) (ws (ks.getD k [])).d := by
  rw [take_kid h, dmax_app]; simp [dmax]
theorem isum_le (ks : List (List Nd)) (k : Nat) : isum (ks.take k) ≤ isum ks := by
  have h : isum (ks.take k ++ ks.drop k) = isum ks := by rw [List.take_append_drop]
  rw [← h, isum_app]
  omega
theorem dmax_le (ks : List (List Nd)) (k : Nat) : dmax (ks.take k) ≤ dmax ks := by
  have h : dmax (ks.take k ++ ks.drop k) = dmax ks := by rw [List.take_append_drop]
  rw [← h, dmax_app]
  omega
theorem kd_all : ∀ {c : Nat} {l : List Nd} {t : St}, parK (par 15) c l = some t → t.n = l.length → t.i ≤ 1048576 →
    (kd l).length = c ∧ (∀ k ∈ kd l, rightA k = true) ∧ isum (kd l) = t.i ∧ dmax (kd l) = t.d ∧ flatK (kd l) = l ∧ ∀ m, m + t.i ≤ 1048576 → holdK m (kd l) = true
  | 0, l, t, h, hn, _ => by
    rw [parK_zero] at h
    cases h
    have : l = [] := List.eq_nil_of_length_eq_zero (by simp [st0] at hn; omega)
    subst this
    rw [kd_nil]
    exact ⟨rfl, (fun k hk => by cases hk), rfl, rfl, rfl, fun _ _ => rfl⟩
  | c + 1, l, t, h, hn, hi => by
    obtain ⟨a, b, ha, hb, rfl⟩ := parK_cons h
    simp only [St.plus] at hn hi
    have hlen := par_len ha
    have h16 : par 16 l = some a := par_depth ha 16 (by omega)
    have hta : takeA l = a.n := by unfold takeA; rw [fs_some (fst_mk h16 (by omega))]
    have hl : l ≠ [] := fun e => by subst e; simp at hlen; omega
    obtain ⟨i1, i2, i3, i4, i5, i6⟩ := kd_all hb (by rw [List.length_drop]; omega) (by omega)
    have hw : whlD (l.take a.n) = some a := whl_mk (par_take h16 (Nat.le_refl _)) (by omega) (by rw [List.length_take]; omega)
    rw [kd_step hl (by rw [hta]; omega), hta]
    refine ⟨by rw [List.length_cons, i1], fun k hk => ?_, ?_, ?_, ?_, fun m hm => ?_⟩
    · rcases List.mem_cons.1 hk with rfl | hk
      · unfold rightA; rw [hw]; rfl
      · exact i2 k hk
    · simp only [isum, ws_some hw, i3, St.plus]
    · simp only [dmax, ws_some hw, i4, St.plus]
    · simp only [flatK, i5, List.take_append_drop]
    · have hd : a.d < 16 := by omega
      have hmi : m + a.i ≤ 1048576 := by simp only [St.plus] at hm; omega
      have hr : rightA (l.take a.n) = true := by unfold rightA; rw [hw]; rfl
      simp only [holdK, holdB1, ws_some hw, hr, hd, hmi, decide_true, Bool.true_and, Bool.and_true]
      exact i6 _ (by simp only [St.plus] at hm; omega)
/-- of another kind: itself alone -/
theorem kids_plain {xs : List Nd} (hr : rightA xs = true) (hk : (xs.getD 0 nd0).kind ≠ 5) : xs.length = 1 ∧ kidsA xs = [] ∧ (ws xs).d = 1 ∧ (ws xs).i = cnt (xs.getD 0 nd0).shp := by
  obtain ⟨s, hs⟩ := right_some hr
  obtain ⟨n, l', t, rfl, hok, ht, rfl, hn, hi⟩ := right_parts hs
  have hk' : n.kind ≠ 5 := hk
  rw [show kc n = 0 by simp [kc, hk'], parK_zero] at ht
  cases ht
  have : l' = [] := List.eq_nil_of_length_eq_zero (by simp [st0] at hn; omega)
  subst this
  refine ⟨rfl, by unfold kidsA; rw [hr, if_pos rfl]; exact kd_nil, by rw [ws_some hs]; rfl, ?_⟩
  rw [ws_some hs]
  simp [top, st0, List.getD]
/-- of kind 5: it is made of its kids -/
theorem kids_nest {xs : List Nd} (hr : rightA xs = true) (hk : (xs.getD 0 nd0).kind = 5) :
    (kidsA xs).length = cnt (xs.getD 0 nd0).shp ∧ (∀ k ∈ kidsA xs, rightA k = true) ∧ (ws xs).i = cnt (xs.getD 0 nd0).shp + isum (kidsA xs) ∧ (ws xs).d = dmax (kidsA xs) + 1 ∧
    nest5 (xs.getD 0 nd0).shp :: flatK (kidsA xs) = xs ∧ nestB (xs.getD 0 nd0).shp (kidsA xs) = true := by
  obtain ⟨s, hs⟩ := right_some hr
  obtain ⟨n, l', t, rfl, hok, ht, rfl, hn, hi⟩ := right_parts hs
  have hk' : n.kind = 5 := hk
  simp only [top] at hi
  obtain ⟨i1, i2, i3, i4, i5, i6⟩ := kd_all ht hn (by omega)
  have hkid : kidsA (n :: l') = kd l' := by unfold kidsA; rw [hr, if_pos rfl]; rfl
  have hkc : kc n = cnt n.shp := by simp [kc, hk']
  have hn5 : nest5 n.shp = n := by
    rcases ok_tot hok with ⟨_, h0, _⟩ | ⟨h0, _⟩
    · have h1 : n.ints = [] := List.eq_nil_of_length_eq_zero (by omega)
      have h2 : n.decs = [] := List.eq_nil_of_length_eq_zero (by omega)
      obtain ⟨k, sh, is, ds⟩ := n
      simp only at h1 h2 hk'
      subst h1 h2 hk'
      rfl
    · exact absurd hk' h0
  have hg : ((n :: l').getD 0 nd0) = n := rfl
  rw [hg, hkid]
  refine ⟨by rw [i1, hkc], i2, by rw [ws_some hs, i3]; simp only [top]; omega, by rw [ws_some hs, i4]; rfl, by rw [hn5, i5], ?_⟩
  have hit : itm n = cnt n.shp := by unfold itm; rw [if_pos hok]
  simp only [nestB, hn5, hok, hit, i1, hkc, decide_true, Bool.true_and]
  exact i6 _ (by omega)
theorem flat_mem {ks : List (List Nd)} {k : List Nd} (h : k ∈ ks) : k.length ≤ (flatK ks).length ∧ ∀ n ∈ k, n ∈ flatK ks := by
  induction ks with
  | nil => cases h
  | cons k0 ks ih =>
    rcases List.mem_cons.1 h with rfl | h
    · exact ⟨by simp [flatK], fun n hn => by simp [flatK, hn]⟩
    · obtain ⟨h1, h2⟩ := ih h
      exact ⟨by simp only [flatK, List.length_append]; omega, fun n hn => by simp [flatK, h2 n hn]⟩
theorem fitk_flat {ks : List (List Nd)} (hf : Fits (flatK ks)) (hl : (flatK ks).length ≤ 1000000) : FitK ks := fun k hk => by
  obtain ⟨h1, h2⟩ := flat_mem hk
  exact ⟨by omega, fun n hn => hf n (h2 n hn)⟩
/-- none -/
theorem kids_none {xs : List Nd} (hr : rightA xs = false) : kidsA xs = [] ∧ (ws xs).i = 0 ∧ (ws xs).d = 0 ∧ (ws xs).r = 0 := by
  rw [ws_none (right_no hr)]
  exact ⟨by unfold kidsA; rw [hr]; rfl, rfl, rfl, rfl⟩
end Go.Proofs.Ytfdlngcaopcaoaa
