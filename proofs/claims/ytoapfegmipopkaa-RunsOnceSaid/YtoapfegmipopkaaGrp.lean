/-
  Mathematics of a group that is read. Nothing is claimed here by itself.
-/
import Derived.Test.YtoapfegmipopkaaGroup
namespace Go.Proofs.Ytoapfegmipopkaa

/-- bytes, so many times -/
def rep (m : Nat) (l : List Int) : List Int := (List.replicate m l).flatten
theorem rep_zero (l : List Int) : rep 0 l = [] := rfl
theorem rep_one (l : List Int) : rep 1 l = l := by simp [rep]
theorem rep_succ (m : Nat) (l : List Int) : rep (m + 1) l = l ++ rep m l := by simp [rep, List.replicate_succ]
theorem rep_snoc (m : Nat) (l : List Int) : rep (m + 1) l = rep m l ++ l := by
  induction m with
  | zero => simp [rep]
  | succ m ih => rw [rep_succ, ih, ← List.append_assoc, ← rep_succ, ih]
theorem rep_len (m : Nat) (l : List Int) : (rep m l).length = l.length * m := by
  induction m with
  | zero => simp [rep]
  | succ m ih => rw [rep_succ, List.length_append, ih, Nat.mul_succ]; omega
theorem rep_single (m : Nat) (c : Int) : rep m [c] = List.replicate m c := by
  induction m with
  | zero => rfl
  | succ m ih => rw [rep_succ, ih, List.replicate_succ]; rfl

theorem fail_e {s : St} {e : Int} (he : e ≠ 0) : (failS e s).e ≠ 0 := by
  unfold failS
  by_cases h : e = 0 ∨ s.e ≠ 0
  · rw [if_pos h]
    rcases h with h | h
    · exact absurd h he
    · exact h
  · rw [if_neg h]
    exact he
theorem fail_bs {s : St} {e : Int} (he : e ≠ 0) (hg : Good s) : (failS e s).bs = [] := (hg.fail e).nil (fail_e he)

/-- a number that fails leaves a fault -/
theorem num_cases (m : Int) (s : St) (hg : Good s) : ((numS m s).1 = 0 ∧ (numS m s).2.e ≠ 0 ∧ (numS m s).2.bs = []) ∨ (∃ v r, s.bs = digs v ++ r ∧ (numS m s).1 = v ∧ (v : Int) ≤ m ∧ (numS m s).2.bs = r ∧ (numS m s).2.e = s.e) := by
  obtain ⟨⟨x, k, e0⟩, ht⟩ : ∃ r, takeN s.bs = r := ⟨_, rfl⟩
  have hE : numS m s = settleS x k (if e0 = 0 ∧ (m < 0 ∨ m < x) then 3 else e0) s := by unfold numS; rw [ht]
  by_cases hb : e0 = 0 ∧ ¬ (m < 0 ∨ m < x)
  · right
    obtain ⟨rfl, hb⟩ := hb
    rw [if_neg (by simp [hb]), settleS, if_neg (by simp)] at hE
    obtain ⟨v, h1, h2, h3, h4, -⟩ := take_once s.bs 0 0 x k hg.byt ht
    have hv : x = v := by simpa using h1
    subst hv
    have hk : k = (digs x).length := by omega
    refine ⟨x, s.bs.drop k, ?_, by rw [hE], by omega, by rw [hE]; rfl, by rw [hE]; rfl⟩
    conv => lhs; rw [← List.take_append_drop k s.bs]
    rw [hk, h3]
  · left
    have hne : (if e0 = 0 ∧ (m < 0 ∨ m < x) then 3 else e0) ≠ 0 := by
      split
      · decide
      · rename_i h
        intro h0
        exact hb ⟨h0, fun h2 => h ⟨h0, h2⟩⟩
    rw [settleS, if_pos hne] at hE
    rw [hE]
    have hne' : (((if e0 = 0 ∧ (m < 0 ∨ m < x) then 3 else e0 : Nat)) : Int) ≠ 0 := by omega
    exact ⟨rfl, fail_e hne', fail_bs hne' hg⟩

theorem num_ok (m : Int) (s : St) (v : Nat) (r : List Int) (h : s.bs = digs v ++ r) (hv : v < 18446744073709551616) (hm : (v : Int) ≤ m) : (numS m s).1 = v ∧ (numS m s).2.bs = r ∧ (numS m s).2.e = s.e := by
  have ht := takeN_back v r hv
  rw [← h] at ht
  unfold numS
  rw [ht]
  simp only [true_and]
  rw [if_neg (by omega), settleS, if_neg (by simp)]
  exact ⟨rfl, by rw [passS, h]; exact List.drop_left' rfl, rfl⟩

theorem take_cases (n : Nat) (s : St) (hg : Good s) : ((takeS (n : Int) s).1 = [] ∧ (takeS (n : Int) s).2.e ≠ 0 ∧ (takeS (n : Int) s).2.bs = [] ∧ s.bs.length < n) ∨ (n ≤ s.bs.length ∧ (takeS (n : Int) s).1 = s.bs.take n ∧ (takeS (n : Int) s).2.bs = s.bs.drop n ∧ (takeS (n : Int) s).2.e = s.e) := by
  unfold takeS
  by_cases h : (n : Int) < 0 ∨ (s.bs.length : Int) < n
  · rw [if_pos h]
    exact .inl ⟨rfl, fail_e (by decide), fail_bs (by decide) hg, by omega⟩
  · rw [if_neg h]
    exact .inr ⟨by omega, rfl, rfl, rfl⟩

theorem grpS_eq (n : Int) (s : St) : grpS n s = if (numS (2 * n) s).1 % 2 = 1 then ((takeS ((1 : Nat) : Int) (numS (2 * n) s).2).1, (numS (2 * n) s).1 / 2 + 3, (takeS ((1 : Nat) : Int) (numS (2 * n) s).2).2)
    else ((takeS (((numS (2 * n) s).1 / 2 + 1 : Nat) : Int) (numS (2 * n) s).2).1, 1, (takeS (((numS (2 * n) s).1 / 2 + 1 : Nat) : Int) (numS (2 * n) s).2).2) := rfl

/-- a group that is there is read -/
theorem grp_reads {n : Int} {s : St} {ys : List Int} (hg : Good s) (h : Grps s.bs ys) (hne : s.bs ≠ []) (he : s.e = 0) (hn : (ys.length : Int) ≤ n) (hn1 : n ≤ 2147483647) :
    ∃ zs, Grps (grpS n s).2.2.bs zs ∧ (grpS n s).2.2.e = 0 ∧ ys = rep (grpS n s).2.1 (grpS n s).1 ++ zs := by
  obtain ⟨v, r, hv, hvl⟩ := grps_first h hne
  obtain ⟨h1, h2, h3⟩ := num_ok (2 * n) s v r hv (by omega) (by omega)
  have hg1 := hg.num (2 * n)
  rw [hv] at h
  rw [grpS_eq, h1]
  by_cases ho : v % 2 = 1
  · rw [if_pos ho]
    obtain ⟨c, t, zs, hr, hz, rfl⟩ := grps_odd h ho
    rcases take_cases 1 (numS (2 * n) s).2 hg1 with ⟨-, -, -, h4⟩ | ⟨-, h5, h6, h7⟩
    · rw [h2, hr] at h4; simp at h4
    · simp only
      rw [h5, h6, h7, h2, h3, hr]
      exact ⟨zs, hz, he, by rw [List.take_succ_cons, List.take_zero, rep_single]⟩
  · rw [if_neg ho]
    obtain ⟨hl, zs, hz, rfl⟩ := grps_even h (by omega)
    rcases take_cases (v / 2 + 1) (numS (2 * n) s).2 hg1 with ⟨-, -, -, h4⟩ | ⟨-, h5, h6, h7⟩
    · rw [h2] at h4; omega
    · simp only
      rw [h5, h6, h7, h2, h3, rep_one]
      exact ⟨zs, hz, he, rfl⟩

/-- what is read without a fault is a group -/
theorem grp_told {n : Int} {s : St} {zs : List Int} (hg : Good s) (he : (grpS n s).2.2.e = 0) (h : Grps (grpS n s).2.2.bs zs) : Grps s.bs (rep (grpS n s).2.1 (grpS n s).1 ++ zs) := by
  have hg1 := hg.num (2 * n)
  rw [grpS_eq] at he h ⊢
  rcases num_cases (2 * n) s hg with ⟨h1, h2, h3⟩ | ⟨v, r, hs, h1, -, h2, h3⟩
  · rw [h1, if_neg (by decide)] at he
    rcases take_cases (0 / 2 + 1) (numS (2 * n) s).2 hg1 with ⟨-, h4, -⟩ | ⟨h5, -, -, -⟩
    · exact absurd he h4
    · rw [h3] at h5; simp at h5
  · rw [h1] at he h ⊢
    by_cases ho : v % 2 = 1
    · rw [if_pos ho] at he h ⊢
      rcases take_cases 1 (numS (2 * n) s).2 hg1 with ⟨-, h4, -⟩ | ⟨h5, h6, h7, -⟩
      · exact absurd he h4
      · simp only at h ⊢
        rw [h2] at h5 h6 h7
        rw [h6]
        rw [h7] at h
        cases r with
        | nil => simp at h5
        | cons c t =>
          rw [List.take_succ_cons, List.take_zero, rep_single, hs]
          have := Grps.run c (v / 2) h
          rw [show 2 * (v / 2) + 1 = v by omega] at this
          exact this
    · rw [if_neg ho] at he h ⊢
      rcases take_cases (v / 2 + 1) (numS (2 * n) s).2 hg1 with ⟨-, h4, -⟩ | ⟨h5, h6, h7, -⟩
      · exact absurd he h4
      · simp only at h ⊢
        rw [h2] at h5 h6 h7
        rw [h6, rep_one, hs]
        rw [h7] at h
        have := Grps.oth (r.take (v / 2 + 1)) (v / 2) (by rw [List.length_take]; omega) h
        rw [show 2 * (v / 2) = v by omega, List.take_append_drop] at this
        exact this

theorem grp_good {n : Int} {s : St} (hg : Good s) : Good (grpS n s).2.2 := by
  unfold grpS
  split
  · exact (hg.num _).take _
  · exact (hg.num _).take _
theorem take_len (n : Int) (s : St) : (takeS n s).2.bs.length ≤ s.bs.length ∧ (takeS n s).1.length ≤ n.toNat ∧ (takeS n s).1.length ≤ s.bs.length := by
  unfold takeS
  split
  · refine ⟨?_, by simp, by simp⟩
    show (failS 2 s).bs.length ≤ _
    unfold failS
    split
    · exact Nat.le_refl _
    · simp
  · refine ⟨?_, ?_, ?_⟩
    · simp [passS]
    · simp only [List.length_take]; omega
    · simp only [List.length_take]; omega
theorem grp_less {n : Int} {s : St} (hg : Good s) (hne : s.bs ≠ []) : (grpS n s).2.2.bs.length < s.bs.length := by
  have hl := List.length_pos_iff.2 hne
  have h1 : (numS (2 * n) s).2.bs.length < s.bs.length := by
    rcases num_cases (2 * n) s hg with ⟨_, _, h3⟩ | ⟨v, r, hs, -, -, h2, -⟩
    · rw [h3]; simpa using hl
    · rw [h2, hs, List.length_append]
      have := digs_pos v
      omega
  unfold grpS
  split
  · exact Nat.lt_of_le_of_lt (take_len _ _).1 h1
  · exact Nat.lt_of_le_of_lt (take_len _ _).1 h1
theorem grp_bounds {n : Int} {s : St} (hg : Good s) (h0 : -4 ≤ n) (h1 : n ≤ 2147483647) :
    (grpS n s).1.length ≤ s.bs.length ∧ 1 ≤ (grpS n s).2.1 ∧ (grpS n s).2.1 ≤ 2147483650 ∧ (grpS n s).1.length * (grpS n s).2.1 ≤ 2147483650 ∧ -4 ≤ n - (((grpS n s).1.length * (grpS n s).2.1 : Nat) : Int) := by
  have hle := numS_le (2 * n) s
  have hl : (numS (2 * n) s).2.bs.length ≤ s.bs.length := by
    rcases num_cases (2 * n) s hg with ⟨_, _, h3⟩ | ⟨v, r, hs, -, -, h2, -⟩
    · rw [h3]; simp
    · rw [h2, hs, List.length_append]; omega
  have hneg : n < 0 → (numS (2 * n) s).1 = 0 ∧ (numS (2 * n) s).2.bs = [] := fun hn => by
    rcases num_cases (2 * n) s hg with ⟨h1, _, h3⟩ | ⟨v, r, hs, -, hv, h2, -⟩
    · exact ⟨h1, h3⟩
    · omega
  unfold grpS
  split
  · rename_i ho
    have h2 := take_len 1 (numS (2 * n) s).2
    have hnn : 0 ≤ n := by
      by_cases hn : n < 0
      · have := (hneg hn).1; omega
      · omega
    have hl1 : (takeS 1 (numS (2 * n) s).2).1.length ≤ 1 := h2.2.1
    have hmul : (takeS 1 (numS (2 * n) s).2).1.length * ((numS (2 * n) s).1 / 2 + 3) ≤ 1 * ((numS (2 * n) s).1 / 2 + 3) := Nat.mul_le_mul_right _ hl1
    simp only
    refine ⟨by omega, by omega, by omega, by omega, by omega⟩
  · have h2 := take_len (((numS (2 * n) s).1 / 2 + 1 : Nat) : Int) (numS (2 * n) s).2
    have hl1 : (takeS (((numS (2 * n) s).1 / 2 + 1 : Nat) : Int) (numS (2 * n) s).2).1.length ≤ (numS (2 * n) s).1 / 2 + 1 := by have := h2.2.1; rwa [Int.toNat_natCast] at this
    have hz : n < 0 → (takeS (((numS (2 * n) s).1 / 2 + 1 : Nat) : Int) (numS (2 * n) s).2).1.length = 0 := fun hn => by
      have := (hneg hn).2
      have := h2.2.2
      rw [(hneg hn).2] at this
      simpa using this
    simp only [Nat.mul_one]
    refine ⟨by omega, by omega, by omega, by omega, ?_⟩
    by_cases hn : n < 0
    · have := hz hn; omega
    · omega

/-- the count goes on -/
theorem grp_step {n : Int} {s : St} (hg : Good s) (hne : s.bs ≠ []) (h1 : n ≤ 2147483647) :
    (s.e = 0 ∧ ∃ ys, Grps s.bs ys ∧ (ys.length : Int) = n) ↔ ((grpS n s).2.2.e = 0 ∧ ∃ ys, Grps (grpS n s).2.2.bs ys ∧ (ys.length : Int) = n - (((grpS n s).1.length * (grpS n s).2.1 : Nat) : Int)) := by
  constructor
  · rintro ⟨he, ys, hy, hn⟩
    obtain ⟨zs, hz, he', rfl⟩ := grp_reads hg hy hne he (by omega) h1
    refine ⟨he', zs, hz, ?_⟩
    rw [List.length_append, rep_len] at hn
    omega
  · rintro ⟨he, zs, hz, hn⟩
    refine ⟨?_, _, grp_told hg he hz, ?_⟩
    · by_cases h : s.e = 0
      · exact h
      · exact absurd (hg.nil h) hne
    · rw [List.length_append, rep_len]
      omega
end Go.Proofs.Ytoapfegmipopkaa
