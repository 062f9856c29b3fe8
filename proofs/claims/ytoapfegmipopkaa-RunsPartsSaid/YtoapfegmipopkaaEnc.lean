/-
  Mathematics of bytes that are alike: groups, and the one form. Nothing is claimed here by itself.
-/
import Derived.Test.YtoapfegmipopkaaMath
namespace Go.Proofs.Ytoapfegmipopkaa

/-- how many bytes stand ahead of the first run -/
def bef : List Int → Nat
  | [] => 0
  | a :: t => if t.take 2 = [a, a] then 0 else bef t + 1
/-- how many bytes like a stand first -/
def lik (a : Int) : List Int → Nat
  | [] => 0
  | c :: t => if c = a then lik a t + 1 else 0
/-- how many bytes the first group has -/
def cut (xs : List Int) : Nat := if bef xs = 0 then lik (xs.getD 0 0) xs else bef xs
/-- the first group -/
def grp (xs : List Int) : List Int := if bef xs = 0 then digs (2 * (lik (xs.getD 0 0) xs - 3) + 1) ++ [xs.getD 0 0] else digs (2 * (bef xs - 1)) ++ xs.take (bef xs)

theorem bef_le (xs : List Int) : bef xs ≤ xs.length := by
  induction xs with
  | nil => simp [bef]
  | cons a t ih => rw [bef]; split <;> simp <;> omega
theorem lik_le (a : Int) (xs : List Int) : lik a xs ≤ xs.length := by
  induction xs with
  | nil => simp [lik]
  | cons c t ih => rw [lik]; split <;> simp; omega
theorem lik_pos (xs : List Int) (h : xs ≠ []) : 1 ≤ lik (xs.getD 0 0) xs := by
  cases xs with
  | nil => exact absurd rfl h
  | cons a t => simp [lik]
theorem cut_pos (xs : List Int) (h : xs ≠ []) : 1 ≤ cut xs := by
  unfold cut
  split
  · exact lik_pos xs h
  · omega
theorem cut_le (xs : List Int) : cut xs ≤ xs.length := by
  unfold cut
  split
  · exact lik_le _ _
  · exact bef_le _

/-- the groups of runs, and of what stands between -/
def enc (xs : List Int) : List Int := if xs = [] then [] else grp xs ++ enc (xs.drop (cut xs))
termination_by xs.length
decreasing_by
  rename_i h
  have := cut_pos xs h
  have := List.length_pos_iff.2 h
  simp
  omega

theorem enc_nil : enc [] = [] := by rw [enc, if_pos rfl]
theorem enc_step {xs : List Int} (h : xs ≠ []) : enc xs = grp xs ++ enc (xs.drop (cut xs)) := by rw [enc, if_neg h]

theorem lik_split (a : Int) (xs : List Int) : xs = List.replicate (lik a xs) a ++ xs.drop (lik a xs) := by
  induction xs with
  | nil => simp [lik]
  | cons c t ih =>
    rw [lik]
    split
    · rename_i e
      subst e
      rw [List.replicate_succ, List.drop_succ_cons, List.cons_append, ← ih]
    · simp
theorem lik_end (a : Int) (xs : List Int) : (xs.drop (lik a xs)).head? ≠ some a := by
  induction xs with
  | nil => simp [lik]
  | cons c t ih =>
    rw [lik]
    split
    · rw [List.drop_succ_cons]; exact ih
    · rename_i e
      simpa using e
theorem lik_rep (a : Int) (m : Nat) (ys : List Int) (h : ys.head? ≠ some a) : lik a (List.replicate m a ++ ys) = m := by
  induction m with
  | zero =>
    cases ys with
    | nil => rfl
    | cons c t =>
      have : c ≠ a := by simpa using h
      simp [lik, this]
  | succ m ih => rw [List.replicate_succ, List.cons_append, lik, if_pos rfl, ih]
theorem bef_zero {a : Int} {t : List Int} : bef (a :: t) = 0 ↔ t.take 2 = [a, a] := by
  rw [bef]
  split <;> simp_all
theorem bef_run {xs : List Int} (h : xs ≠ []) (h0 : bef xs = 0) : 3 ≤ lik (xs.getD 0 0) xs := by
  match xs, h, h0 with
  | a :: t, _, h0 =>
    have := bef_zero.1 h0
    match t, this with
    | [], h1 => simp at h1
    | [b], h1 => simp at h1
    | b :: c :: t, h1 =>
      simp at h1
      simp [lik, h1]
theorem bef_rep (a : Int) (m : Nat) (ys : List Int) : bef (List.replicate (m + 3) a ++ ys) = 0 := by
  rw [List.replicate_succ, List.cons_append, bef_zero, List.replicate_succ, List.replicate_succ]
  rfl
theorem bef_drop (xs : List Int) : bef (xs.drop (bef xs)) = 0 := by
  induction xs with
  | nil => rfl
  | cons a t ih =>
    rw [bef]
    split
    · rename_i h
      exact bef_zero.2 h
    · rw [List.drop_succ_cons]; exact ih

/-- a run first -/
theorem enc_run (c : Int) (m : Nat) (ys : List Int) (h : ys.head? ≠ some c) : enc (List.replicate (m + 3) c ++ ys) = digs (2 * m + 1) ++ c :: enc ys := by
  have hb := bef_rep c m ys
  have hl := lik_rep c (m + 3) ys h
  have h0 : (List.replicate (m + 3) c ++ ys).getD 0 0 = c := by rw [List.replicate_succ]; rfl
  rw [enc_step (by simp [List.replicate_succ]), grp, cut, if_pos hb, if_pos hb, h0, hl, List.drop_left' (by simp)]
  simp
/-- what stands between first -/
theorem enc_oth (l ys : List Int) (h : l ≠ []) (hb : bef (l ++ ys) = l.length) : enc (l ++ ys) = digs (2 * (l.length - 1)) ++ (l ++ enc ys) := by
  have hl := List.length_pos_iff.2 h
  rw [enc_step (by simp [h]), grp, cut, if_neg (by omega), if_neg (by omega), hb, List.take_left' rfl, List.drop_left' rfl, List.append_assoc]

/-- a row of bytes is none, or a run first, or what stands between first -/
theorem enc_cases (xs : List Int) : xs = [] ∨ (∃ c m ys, xs = List.replicate (m + 3) c ++ ys ∧ ys.head? ≠ some c) ∨ ∃ l ys, xs = l ++ ys ∧ l ≠ [] ∧ bef (l ++ ys) = l.length ∧ bef ys = 0 := by
  by_cases h : xs = []
  · exact .inl h
  · by_cases h0 : bef xs = 0
    · refine .inr (.inl ⟨xs.getD 0 0, lik (xs.getD 0 0) xs - 3, xs.drop (lik (xs.getD 0 0) xs), ?_, lik_end _ _⟩)
      have := bef_run h h0
      rw [show lik (xs.getD 0 0) xs - 3 + 3 = lik (xs.getD 0 0) xs by omega]
      exact lik_split _ _
    · refine .inr (.inr ⟨xs.take (bef xs), xs.drop (bef xs), (List.take_append_drop _ _).symm, ?_, ?_, bef_drop xs⟩)
      · intro e
        have h1 := congrArg List.length e
        have h2 := List.length_pos_iff.2 h
        rw [List.length_take, List.length_nil] at h1
        omega
      · rw [List.take_append_drop, List.length_take]
        have := bef_le xs
        omega

/-- groups, and the bytes that they come to -/
inductive Grps : List Int → List Int → Prop
  | nil : Grps [] []
  | run (c : Int) (m : Nat) {xs ys : List Int} : Grps xs ys → Grps (digs (2 * m + 1) ++ c :: xs) (List.replicate (m + 3) c ++ ys)
  | oth (l : List Int) (m : Nat) {xs ys : List Int} : l.length = m + 1 → Grps xs ys → Grps (digs (2 * m) ++ (l ++ xs)) (l ++ ys)

theorem enc_grps : ∀ (k : Nat) (xs : List Int), xs.length ≤ k → Grps (enc xs) xs := by
  intro k
  induction k with
  | zero =>
    intro xs h
    have : xs = [] := List.eq_nil_of_length_eq_zero (by omega)
    subst this
    rw [enc_nil]
    exact .nil
  | succ k ih =>
    intro xs h
    rcases enc_cases xs with rfl | ⟨c, m, ys, rfl, h1⟩ | ⟨l, ys, rfl, h1, h2, -⟩
    · rw [enc_nil]; exact .nil
    · rw [enc_run c m ys h1]
      exact .run c m (ih ys (by simp at h; omega))
    · have hl := List.length_pos_iff.2 h1
      rw [enc_oth l ys h1 h2]
      exact .oth l _ (by omega) (ih ys (by simp at h; omega))

theorem digs_inj : ∀ (a b : Nat) (r s : List Int), digs a ++ r = digs b ++ s → a = b ∧ r = s := by
  intro a
  induction a using Nat.strongRecOn with
  | _ a ih =>
    intro b r s h
    by_cases ha : a < 128 <;> by_cases hb : b < 128
    · rw [digs_lo ha, digs_lo hb] at h
      simp at h
      exact ⟨by omega, h.2⟩
    · rw [digs_lo ha, digs_hi (by omega)] at h
      simp at h
      omega
    · rw [digs_hi (by omega), digs_lo hb] at h
      simp at h
      omega
    · rw [digs_hi (by omega), digs_hi (show 128 ≤ b by omega)] at h
      simp only [List.cons_append, List.cons.injEq] at h
      have := ih (a / 128) (by omega) _ _ _ h.2
      exact ⟨by omega, this.2⟩

theorem digs_ne (v : Nat) (r : List Int) : digs v ++ r ≠ [] := by
  have h0 := digs_pos v
  intro e
  have h1 := congrArg List.length e
  rw [List.length_append, List.length_nil] at h1
  omega
theorem grps_nil {ys : List Int} (h : Grps [] ys) : ys = [] := by
  generalize hx : ([] : List Int) = xs at h
  cases h with
  | nil => rfl
  | run c m h => exact absurd hx.symm (digs_ne _ _)
  | oth l m hl h => exact absurd hx.symm (digs_ne _ _)
/-- what a group's number tells -/
theorem grps_odd {v : Nat} {r ys : List Int} (h : Grps (digs v ++ r) ys) (hv : v % 2 = 1) : ∃ c t zs, r = c :: t ∧ Grps t zs ∧ ys = List.replicate (v / 2 + 3) c ++ zs := by
  generalize hx : digs v ++ r = xs at h
  cases h with
  | nil => exact absurd hx (digs_ne _ _)
  | run c m h =>
    obtain ⟨rfl, rfl⟩ := digs_inj _ _ _ _ hx
    exact ⟨c, _, _, rfl, h, by rw [show (2 * m + 1) / 2 = m by omega]⟩
  | oth l m hl h =>
    obtain ⟨rfl, _⟩ := digs_inj _ _ _ _ hx
    omega
theorem grps_even {v : Nat} {r ys : List Int} (h : Grps (digs v ++ r) ys) (hv : v % 2 = 0) : v / 2 + 1 ≤ r.length ∧ ∃ zs, Grps (r.drop (v / 2 + 1)) zs ∧ ys = r.take (v / 2 + 1) ++ zs := by
  generalize hx : digs v ++ r = xs at h
  cases h with
  | nil => exact absurd hx (digs_ne _ _)
  | run c m h =>
    obtain ⟨rfl, _⟩ := digs_inj _ _ _ _ hx
    omega
  | oth l m hl h =>
    obtain ⟨rfl, rfl⟩ := digs_inj _ _ _ _ hx
    rw [show 2 * m / 2 + 1 = l.length by omega]
    exact ⟨by simp, _, by rw [List.drop_left' rfl]; exact h, by rw [List.take_left' rfl]⟩
theorem grps_first {xs ys : List Int} (h : Grps xs ys) (hx : xs ≠ []) : ∃ v r, xs = digs v ++ r ∧ v + 2 ≤ 2 * ys.length := by
  cases h with
  | nil => exact absurd rfl hx
  | run c m h => exact ⟨_, _, rfl, by simp; omega⟩
  | oth l m hl h => exact ⟨_, _, rfl, by simp; omega⟩

theorem grps_one {xs ys : List Int} (h : Grps xs ys) : ∀ zs, Grps xs zs → ys = zs := by
  induction h with
  | nil => exact fun zs h => (grps_nil h).symm
  | run c m _ ih =>
    intro zs h
    obtain ⟨c', t, z, e, hz, rfl⟩ := grps_odd h (by omega)
    cases e
    rw [ih z hz, show (2 * m + 1) / 2 = m by omega]
  | oth l m hl _ ih =>
    intro zs h
    obtain ⟨h1, z, hz, rfl⟩ := grps_even h (by omega)
    rw [show 2 * m / 2 + 1 = l.length by omega, List.drop_left' rfl] at hz
    rw [show 2 * m / 2 + 1 = l.length by omega, List.take_left' rfl, ih z hz]

/-- what has one form, is one -/
theorem enc_inj {xs ys : List Int} (h : enc xs = enc ys) : xs = ys := grps_one (enc_grps _ xs (Nat.le_refl _)) ys (h ▸ enc_grps _ ys (Nat.le_refl _))

theorem enc_byt : ∀ (k : Nat) (xs : List Int), xs.length ≤ k → Byt xs → Byt (enc xs) := by
  intro k
  induction k with
  | zero =>
    intro xs h _
    have : xs = [] := List.eq_nil_of_length_eq_zero (by omega)
    subst this
    rw [enc_nil]
    exact byt_nil
  | succ k ih =>
    intro xs h hb
    rcases enc_cases xs with rfl | ⟨c, m, ys, rfl, h1⟩ | ⟨l, ys, rfl, h1, h2, -⟩
    · rw [enc_nil]; exact byt_nil
    · rw [enc_run c m ys h1]
      refine (digs_byt _).app fun x hx => ?_
      rcases List.mem_cons.1 hx with rfl | hx
      · exact hb x (by simp)
      · exact ih ys (by simp at h; omega) (fun x hx => hb x (by simp [hx])) x hx
    · have hl := List.length_pos_iff.2 h1
      rw [enc_oth l ys h1 h2]
      exact (digs_byt _).app (Byt.app (fun x hx => hb x (by simp [hx])) (ih ys (by simp at h; omega) (fun x hx => hb x (by simp [hx]))))
theorem grps_byt {xs ys : List Int} (h : Grps xs ys) : Byt xs → Byt ys := by
  induction h with
  | nil => exact fun _ => byt_nil
  | run c m _ ih =>
    intro hb
    refine Byt.app (fun x hx => ?_) (ih fun x hx => hb x (by simp [hx]))
    rw [List.eq_of_mem_replicate hx]
    exact hb c (by simp)
  | oth l m hl _ ih => exact fun hb => Byt.app (fun x hx => hb x (by simp [hx])) (ih fun x hx => hb x (by simp [hx]))

theorem grp_run {xs : List Int} (h : xs ≠ []) (h0 : bef xs = 0) {a : Int} {m : Nat} (ha : xs.getD 0 0 = a) (hm : lik a xs = m + 3) : enc xs = digs (2 * m + 1) ++ (a :: enc (xs.drop (m + 3))) := by
  rw [enc_step h, grp, cut, if_pos h0, if_pos h0, ha, hm, Nat.add_sub_cancel, List.append_assoc]
  rfl
theorem grp_oth {xs : List Int} {k : Nat} (h0 : bef xs = k + 1) : enc xs = digs (2 * k) ++ (xs.take (k + 1) ++ enc (xs.drop (k + 1))) := by
  have h : xs ≠ [] := fun e => by rw [e] at h0; simp [bef] at h0
  rw [enc_step h, grp, cut, if_neg (by omega), if_neg (by omega), h0, Nat.add_sub_cancel, List.append_assoc]

theorem enc_len : ∀ (k : Nat) (xs : List Int), xs.length ≤ k → xs.length ≤ 1000000000000 → (enc xs).length ≤ 11 * xs.length := by
  intro k
  induction k with
  | zero =>
    intro xs h _
    have : xs = [] := List.eq_nil_of_length_eq_zero (by omega)
    subst this
    simp [enc_nil]
  | succ k ih =>
    intro xs h hb
    rcases enc_cases xs with rfl | ⟨c, m, ys, rfl, h1⟩ | ⟨l, ys, rfl, h1, h2, -⟩
    · simp [enc_nil]
    · simp only [List.length_append, List.length_replicate] at h hb
      have h3 := ih ys (by omega) (by omega)
      have h4 := digs_ten (n := 2 * m + 1) (by omega)
      rw [enc_run c m ys h1]
      simp only [List.length_append, List.length_replicate, List.length_cons]
      omega
    · have hl := List.length_pos_iff.2 h1
      simp only [List.length_append] at h hb
      have h3 := ih ys (by omega) (by omega)
      have h4 := digs_ten (n := 2 * (l.length - 1)) (by omega)
      rw [enc_oth l ys h1 h2]
      simp only [List.length_append]
      omega

/-- how long it is, at most -/
theorem digs_small {v : Nat} (h : v < 16384) : (digs v).length ≤ if v < 128 then 1 else 2 := by
  split
  · rename_i h1; rw [digs_lo h1]; simp
  · rename_i h1
    rw [digs_hi (by omega), digs_lo (by omega)]
    simp
end Go.Proofs.Ytoapfegmipopkaa
