/-
  LMath, LMath2, LKidsM, one behind the other.
-/
import Derived.Test.YtcljpcbgokgcdaaKidsM
import Derived.Test.YtcljpcbgokgcdaaNest
import Derived.Test.YtcljpcbgokgcdaaFew
section
/-
  What the laws say, as mathematics. Nothing is claimed here by itself.
-/
namespace Go.Proofs.Ytcljpcbgokgcdaa
set_option linter.unusedVariables false
set_option linter.unusedSimpArgs false

theorem take_some {l : List Nd} (h : 0 < takeA l) : ∃ s, fstD l = some s ∧ s.n = takeA l := by
  cases hf : fstD l with
  | none => unfold takeA at h; rw [fs_none hf] at h; simp [st0] at h
  | some s => exact ⟨s, rfl, by unfold takeA; rw [fs_some hf]⟩
theorem take_zero {l : List Nd} (h : fstD l = none) : takeA l = 0 := by unfold takeA; rw [fs_none h]; rfl
theorem take_le (l : List Nd) : takeA l ≤ l.length := by
  by_cases h : 0 < takeA l
  · obtain ⟨s, hs, hn⟩ := take_some h
    rw [← hn]
    exact (par_len (fst_some hs).1).2.1
  · omega
theorem take_right {l : List Nd} (h : 0 < takeA l) : rightA (l.take (takeA l)) = true := by
  obtain ⟨s, hs, hn⟩ := take_some h
  have hp := par_take (fst_some hs).1 (k := s.n) (Nat.le_refl _)
  have hl := (par_len (fst_some hs).1).2.1
  have hw := whl_mk hp (fst_some hs).2 (by rw [List.length_take]; omega)
  rw [hn] at hw
  unfold rightA
  rw [hw]
  rfl
theorem take_app {l : List Nd} (h : 0 < takeA l) (r : List Nd) : takeA (l ++ r) = takeA l := by
  obtain ⟨s, hs, hn⟩ := take_some h
  have hf := fst_mk (par_app (fst_some hs).1 r) (fst_some hs).2
  rw [← hn]
  unfold takeA
  rw [fs_some hf]
theorem take_short {l : List Nd} {i : Nat} (h : i < takeA l) : takeA (l.take i) = 0 := by
  obtain ⟨s, hs, hn⟩ := take_some (Nat.lt_of_le_of_lt (Nat.zero_le _) h)
  cases hf : fstD (l.take i) with
  | none => exact take_zero hf
  | some t =>
    exfalso
    obtain ⟨hp, hi⟩ := fst_some hf
    have hlt := (par_len hp).2.1
    rw [List.length_take] at hlt
    have := par_local hp l (by rw [List.take_take]; congr 1; omega)
    rw [(fst_some hs).1] at this
    cases this
    omega
theorem right_take {l : List Nd} (h : rightA l = true) : takeA l = l.length ∧ 0 < takeA l := by
  obtain ⟨s, hs⟩ := right_some h
  obtain ⟨hp, hi, hn⟩ := whl_some hs
  have hf := fst_mk hp hi
  have : takeA l = s.n := by unfold takeA; rw [fs_some hf]
  rw [this]
  exact ⟨hn, (par_len hp).1⟩
theorem right_short {l : List Nd} {i : Nat} (h : i < takeA l) : rightA (l.take i) = false := by
  rw [Bool.eq_false_iff]
  intro hr
  have := (right_take hr).2
  rw [take_short h] at this
  omega
theorem right_iff_take (l : List Nd) : rightA l = (decide (0 < takeA l) && decide (takeA l = l.length)) := by
  cases hr : rightA l with
  | true =>
    obtain ⟨h1, h2⟩ := right_take hr
    simp [h1]
    omega
  | false =>
    symm
    rw [Bool.and_eq_false_iff]
    by_cases h : 0 < takeA l
    · right
      rw [decide_eq_false_iff_not]
      intro he
      have := take_right h
      rw [he, List.take_length, hr] at this
      cases this
    · left
      exact decide_eq_false h
end Go.Proofs.Ytcljpcbgokgcdaa
end

section
/-
  How great an array is by its numbers; an array in one of no shape. Nothing is claimed here by itself.
-/
namespace Go.Proofs.Ytcljpcbgokgcdaa
set_option linter.unusedVariables false
set_option linter.unusedSimpArgs false

theorem ok_tot {n : Nd} (h : okB n = true) : (n.kind = 5 ∧ n.ints.length + n.decs.length = 0 ∧ kc n = cnt n.shp) ∨ (n.kind ≠ 5 ∧ n.ints.length + n.decs.length = cnt n.shp ∧ kc n = 0) := by
  simp only [okB, Bool.and_eq_true] at h
  have hf := h.2
  unfold fillB at hf
  by_cases h5 : n.kind = 5
  · left
    rw [h5] at hf
    simp at hf
    exact ⟨h5, by rw [hf.1, hf.2]; rfl, by simp [kc, h5]⟩
  · right
    refine ⟨h5, ?_, by simp [kc, h5]⟩
    by_cases h1 : n.kind = 1
    · simp [h1] at hf; rw [hf.1.1, hf.1.2]; rfl
    · by_cases h2 : n.kind = 2
      · simp [h2] at hf; rw [hf.1, hf.2]; rfl
      · by_cases h3 : n.kind = 3
        · simp [h3] at hf; rw [hf.1.1, hf.1.2]; rfl
        · by_cases h4 : n.kind = 4
          · simp [h4] at hf; rw [hf.1.1, hf.1.2]; simp
          · simp [h1, h2, h3, h4, h5] at hf
theorem parK_tot {f : List Nd → Option St} (hf : ∀ l s, f l = some s → s.i + 1 = tot (l.take s.n) + s.n) : ∀ {c : Nat} {l : List Nd} {t : St}, parK f c l = some t → t.i + c = tot (l.take t.n) + t.n
  | 0, l, t, h => by rw [parK_zero] at h; cases h; rfl
  | c + 1, l, t, h => by
    obtain ⟨a, b, ha, hb, rfl⟩ := parK_some h
    have h1 := parK_tot hf ha
    have h2 := hf _ _ hb
    have h3 : tot (l.take (a.n + b.n)) = tot (l.take a.n) + tot ((l.drop a.n).take b.n) := by rw [← tot_app, ← List.take_add]
    simp only [St.plus]
    rw [h3]
    omega
theorem par_tot : ∀ {d : Nat} {l : List Nd} {s : St}, par d l = some s → s.i + 1 = tot (l.take s.n) + s.n
  | 0, l, s, h => by cases h
  | d + 1, l, s, h => by
    obtain ⟨e, n, l', t, he, rfl, hn, ht, rfl⟩ := par_parts h
    obtain rfl : d = e := by omega
    have h1 := parK_tot (fun l s h => par_tot h) ht
    simp only [top, List.take_succ_cons, tot]
    rcases ok_tot hn with ⟨_, h2, h3⟩ | ⟨_, h2, h3⟩
    · rw [h3] at h1; omega
    · rw [h3] at h1; omega
theorem few_items {ns : List Nd} (h : fewB ns = true) (hr : rightA ns = true) : (ws ns).i ≤ 1100 := by
  obtain ⟨s, hs⟩ := right_some hr
  obtain ⟨hp, hi, hn⟩ := whl_some hs
  have h1 := par_tot hp
  have hl := few_len h
  simp only [fewB, Bool.and_eq_true, decide_eq_true_eq] at h
  rw [List.take_of_length_le (by omega : ns.length ≤ 200)] at h
  rw [hn, List.take_length] at h1
  rw [ws_some hs]
  omega
theorem nest_one {ns : List Nd} (hr : rightA ns = true) (hi : (ws ns).i ≤ 2000) : nestB [] [ns] = decide ((ws ns).d < 16) := by
  have e1 : okB (nest5 []) = true := by decide +kernel
  have e2 : itm (nest5 []) = 1 := by decide +kernel
  have e3 : 1 + (ws ns).i ≤ 1048576 := by omega
  simp [nestB, e1, e2, holdK, holdB1, hr, e3]
theorem flat_one (ns : List Nd) : flatK [ns] = ns := by simp [flatK]
theorem nest_whole {ns : List Nd} (hr : rightA ns = true) (hd : (ws ns).d < 16) (hi : (ws ns).i ≤ 2000) : whlD (nest5 [] :: ns) = some (top (nest5 []) (ws ns)) := by
  obtain ⟨s, hs⟩ := right_some hr
  obtain ⟨hp, _, hn⟩ := whl_some hs
  rw [ws_some hs] at hd hi ⊢
  have e1 : okB (nest5 []) = true := by decide +kernel
  have e2 : kc (nest5 []) = 1 := by decide +kernel
  have e3 : cnt (nest5 []).shp = 1 := by decide +kernel
  have h15 := par_depth hp 15 (by omega)
  have hk : parK (par 15) 1 ns = some s := by
    have := parK_mk (f := par 15) (j := 0) (l := ns) (a := st0) (b := s) rfl (by simpa [st0] using h15)
    rwa [zero_plus] at this
  refine whl_mk (par_mk e1 (by rw [e2]; exact hk)) ?_ ?_
  · simp only [top]; omega
  · simp only [top, List.length_cons]; omega
end Go.Proofs.Ytcljpcbgokgcdaa
end

section
/-
  An array and its kids, as mathematics. Nothing is claimed here by itself.
-/
namespace Go.Proofs.Ytcljpcbgokgcdaa
set_option linter.unusedVariables false
set_option linter.unusedSimpArgs false

def dmax : List (List Nd) → Nat
  | [] => 0
  | k :: ks => max (ws k).d (dmax ks)
theorem isum_app (a b : List (List Nd)) : isum (a ++ b) = isum a + isum b := by
  induction a with
  | nil => simp [isum]
  | cons k a ih => simp only [List.cons_append, isum, ih]; omega
theorem dmax_app (a b : List (List Nd)) : dmax (a ++ b) = max (dmax a) (dmax b) := by
  induction a with
  | nil => simp [dmax]
  | cons k a ih => simp only [List.cons_append, dmax, ih]; omega
theorem take_kid {ks : List (List Nd)} {k : Nat} (h : k < ks.length) : ks.take (k + 1) = ks.take k ++ [ks.getD k []] := by
  rw [List.take_add_one]
  congr 1
  simp [List.getD, h]
theorem isum_step {ks : List (List Nd)} {k : Nat} (h : k < ks.length) : isum (ks.take (k + 1)) = isum (ks.take k) + (ws (ks.getD k [])).i := by
  rw [take_kid h, isum_app]; simp [isum]
theorem dmax_step {ks : List (List Nd)} {k : Nat} (h : k < ks.length) : dmax (ks.take (k + 1)) = max (dmax (ks.take k)) (ws (ks.getD k [])).d := by
  rw [take_kid h, dmax_app]; simp [dmax]
theorem isum_le (ks : List (List Nd)) (k : Nat) : isum (ks.take k) ≤ isum ks := by
  have h : isum (ks.take k ++ ks.drop k) = isum ks := by rw [List.take_append_drop]
  rw [← h, isum_app]
  omega
theorem dmax_le (ks : List (List Nd)) (k : Nat) : dmax (ks.take k) ≤ dmax ks := by
  have h : dmax (ks.take k ++ ks.drop k) = dmax ks := by rw [List.take_append_drop]
  rw [← h, dmax_app]
  omega
theorem kd_all : ∀ {c : Nat} {l : List Nd} {t : St}, parK (par 15) c l = some t → t.n = l.length → t.i ≤ 1048576 →
    (kd l).length = c ∧ (∀ k ∈ kd l, rightA k = true) ∧ isum (kd l) = t.i ∧ dmax (kd l) = t.d ∧ flatK (kd l) = l ∧ ∀ m, m + t.i ≤ 1048576 → holdK m (kd l) = true
  | 0, l, t, h, hn, _ => by
    rw [parK_zero] at h
    cases h
    have : l = [] := List.eq_nil_of_length_eq_zero (by simp [st0] at hn; omega)
    subst this
    rw [kd_nil]
    exact ⟨rfl, (fun k hk => by cases hk), rfl, rfl, rfl, fun _ _ => rfl⟩
  | c + 1, l, t, h, hn, hi => by
    obtain ⟨a, b, ha, hb, rfl⟩ := parK_cons h
    simp only [St.plus] at hn hi
    have hlen := par_len ha
    have h16 : par 16 l = some a := par_depth ha 16 (by omega)
    have hta : takeA l = a.n := by unfold takeA; rw [fs_some (fst_mk h16 (by omega))]
    have hl : l ≠ [] := fun e => by subst e; simp at hlen; omega
    obtain ⟨i1, i2, i3, i4, i5, i6⟩ := kd_all hb (by rw [List.length_drop]; omega) (by omega)
    have hw : whlD (l.take a.n) = some a := whl_mk (par_take h16 (Nat.le_refl _)) (by omega) (by rw [List.length_take]; omega)
    rw [kd_step hl (by rw [hta]; omega), hta]
    refine ⟨by rw [List.length_cons, i1], fun k hk => ?_, ?_, ?_, ?_, fun m hm => ?_⟩
    · rcases List.mem_cons.1 hk with rfl | hk
      · unfold rightA; rw [hw]; rfl
      · exact i2 k hk
    · simp only [isum, ws_some hw, i3, St.plus]
    · simp only [dmax, ws_some hw, i4, St.plus]
    · simp only [flatK, i5, List.take_append_drop]
    · have hd : a.d < 16 := by omega
      have hmi : m + a.i ≤ 1048576 := by simp only [St.plus] at hm; omega
      have hr : rightA (l.take a.n) = true := by unfold rightA; rw [hw]; rfl
      simp only [holdK, holdB1, ws_some hw, hr, hd, hmi, decide_true, Bool.true_and, Bool.and_true]
      exact i6 _ (by simp only [St.plus] at hm; omega)
/-- of another kind: itself alone -/
theorem kids_plain {xs : List Nd} (hr : rightA xs = true) (hk : (xs.getD 0 nd0).kind ≠ 5) : xs.length = 1 ∧ kidsA xs = [] ∧ (ws xs).d = 1 ∧ (ws xs).i = cnt (xs.getD 0 nd0).shp := by
  obtain ⟨s, hs⟩ := right_some hr
  obtain ⟨n, l', t, rfl, hok, ht, rfl, hn, hi⟩ := right_parts hs
  have hk' : n.kind ≠ 5 := hk
  rw [show kc n = 0 by simp [kc, hk'], parK_zero] at ht
  cases ht
  have : l' = [] := List.eq_nil_of_length_eq_zero (by simp [st0] at hn; omega)
  subst this
  refine ⟨rfl, by unfold kidsA; rw [hr, if_pos rfl]; exact kd_nil, by rw [ws_some hs]; rfl, ?_⟩
  rw [ws_some hs]
  simp [top, st0, List.getD]
/-- of kind 5: it is made of its kids -/
theorem kids_nest {xs : List Nd} (hr : rightA xs = true) (hk : (xs.getD 0 nd0).kind = 5) :
    (kidsA xs).length = cnt (xs.getD 0 nd0).shp ∧ (∀ k ∈ kidsA xs, rightA k = true) ∧ (ws xs).i = cnt (xs.getD 0 nd0).shp + isum (kidsA xs) ∧ (ws xs).d = dmax (kidsA xs) + 1 ∧
    nest5 (xs.getD 0 nd0).shp :: flatK (kidsA xs) = xs ∧ nestB (xs.getD 0 nd0).shp (kidsA xs) = true := by
  obtain ⟨s, hs⟩ := right_some hr
  obtain ⟨n, l', t, rfl, hok, ht, rfl, hn, hi⟩ := right_parts hs
  have hk' : n.kind = 5 := hk
  simp only [top] at hi
  obtain ⟨i1, i2, i3, i4, i5, i6⟩ := kd_all ht hn (by omega)
  have hkid : kidsA (n :: l') = kd l' := by unfold kidsA; rw [hr, if_pos rfl]; rfl
  have hkc : kc n = cnt n.shp := by simp [kc, hk']
  have hn5 : nest5 n.shp = n := by
    rcases ok_tot hok with ⟨_, h0, _⟩ | ⟨h0, _⟩
    · have h1 : n.ints = [] := List.eq_nil_of_length_eq_zero (by omega)
      have h2 : n.decs = [] := List.eq_nil_of_length_eq_zero (by omega)
      obtain ⟨k, sh, is, ds⟩ := n
      simp only at h1 h2 hk'
      subst h1 h2 hk'
      rfl
    · exact absurd hk' h0
  have hg : ((n :: l').getD 0 nd0) = n := rfl
  rw [hg, hkid]
  refine ⟨by rw [i1, hkc], i2, by rw [ws_some hs, i3]; simp only [top]; omega, by rw [ws_some hs, i4]; rfl, by rw [hn5, i5], ?_⟩
  have hit : itm n = cnt n.shp := by unfold itm; rw [if_pos hok]
  simp only [nestB, hn5, hok, hit, i1, hkc, decide_true, Bool.true_and]
  exact i6 _ (by omega)
theorem flat_mem {ks : List (List Nd)} {k : List Nd} (h : k ∈ ks) : k.length ≤ (flatK ks).length ∧ ∀ n ∈ k, n ∈ flatK ks := by
  induction ks with
  | nil => cases h
  | cons k0 ks ih =>
    rcases List.mem_cons.1 h with rfl | h
    · exact ⟨by simp [flatK], fun n hn => by simp [flatK, hn]⟩
    · obtain ⟨h1, h2⟩ := ih h
      exact ⟨by simp only [flatK, List.length_append]; omega, fun n hn => by simp [flatK, h2 n hn]⟩
theorem fitk_flat {ks : List (List Nd)} (hf : Fits (flatK ks)) (hl : (flatK ks).length ≤ 1100000) : FitK ks := fun k hk => by
  obtain ⟨h1, h2⟩ := flat_mem hk
  exact ⟨by omega, fun n hn => hf n (h2 n hn)⟩
/-- none -/
theorem kids_none {xs : List Nd} (hr : rightA xs = false) : kidsA xs = [] ∧ (ws xs).i = 0 ∧ (ws xs).d = 0 ∧ (ws xs).r = 0 := by
  rw [ws_none (right_no hr)]
  exact ⟨by unfold kidsA; rw [hr]; rfl, rfl, rfl, rfl⟩
end Go.Proofs.Ytcljpcbgokgcdaa
end
