/-
  Exact numbers, plainly: the right form, and which are right. Nothing is claimed here by itself.
-/
namespace Go.Proofs.YtkebngldmcoaaaaGreatDoor

abbrev Dc := Int × Int

/-- an int of 64 bits -/
def In (n : Int) : Prop := -9223372036854775808 ≤ n ∧ n ≤ 9223372036854775807
theorem In.lo {n : Int} (h : In n) : -9223372036854775808 ≤ n := h.1
theorem In.hi {n : Int} (h : In n) : n ≤ 9223372036854775807 := h.2

/-- how many noughts stand behind -/
def zs : Nat → Int → Nat
  | 0, _ => 0
  | f + 1, m => if m % 10 = 0 then zs f (m / 10) + 1 else 0

def okExp (e : Int) : Bool := decide (-32768 ≤ e ∧ e ≤ 32767)

def norm (m e : Int) : Dc × Bool :=
  if m = 0 then ((0, 0), true)
  else if okExp (e + (zs 20 m : Nat)) then ((m / 10 ^ zs 20 m, e + (zs 20 m : Nat)), true) else ((0, 0), false)

def rightB (m e : Int) : Bool := decide (norm m e = ((m, e), true))

def Right (m e : Int) : Prop := (m = 0 ∧ e = 0) ∨ (m % 10 ≠ 0 ∧ -32768 ≤ e ∧ e ≤ 32767)

theorem pow_pos10 (k : Nat) : 0 < (10 : Int) ^ k := by
  induction k with
  | zero => decide
  | succ k ih => rw [Int.pow_succ]; omega

theorem zs_of : ∀ (j f : Nat) (q : Int), q % 10 ≠ 0 → j < f → zs f (q * 10 ^ j) = j
  | 0, 0, _, _, h => absurd h (by omega)
  | 0, f + 1, q, hq, _ => by rw [zs]; simp [hq]
  | j + 1, 0, _, _, h => absurd h (by omega)
  | j + 1, f + 1, q, hq, h => by
    have e : q * 10 ^ (j + 1) = (q * 10 ^ j) * 10 := by rw [Int.pow_succ, Int.mul_assoc]
    rw [zs, e, if_pos (by omega), show q * 10 ^ j * 10 / 10 = q * 10 ^ j by omega, zs_of j f q hq (by omega)]

theorem mul_ne {q : Int} (hq : q % 10 ≠ 0) (j : Nat) : q * 10 ^ j ≠ 0 := by
  have := pow_pos10 j
  intro h
  rcases Int.mul_eq_zero.1 h with h | h <;> omega

theorem norm_of {m e q : Int} {j : Nat} (hm : m = q * 10 ^ j) (hq : q % 10 ≠ 0) (hj : j ≤ 19) :
    norm m e = if okExp (e + (j : Nat)) then ((q, e + (j : Nat)), true) else ((0, 0), false) := by
  have h0 : m ≠ 0 := by rw [hm]; exact mul_ne hq j
  rw [norm, if_neg h0, hm, zs_of j 20 q hq (by omega), Int.mul_ediv_cancel _ (by have := pow_pos10 j; omega)]

theorem norm_zero (e : Int) : norm 0 e = ((0, 0), true) := by rw [norm, if_pos rfl]

/-- each number that is not 0 is one that is no multiple of ten, and noughts -/
theorem parts_of : ∀ (f : Nat) (m : Int), m ≠ 0 → m.natAbs < 10 ^ f → ∃ q j, m = q * 10 ^ j ∧ q % 10 ≠ 0 ∧ j < f
  | 0, m, h0, h => by simp at h; omega
  | f + 1, m, h0, h => by
    by_cases h10 : m % 10 = 0
    · have hlt : (m / 10).natAbs < 10 ^ f := by rw [Nat.pow_succ] at h; omega
      obtain ⟨q, j, hm, hq, hj⟩ := parts_of f (m / 10) (by omega) hlt
      refine ⟨q, j + 1, ?_, hq, by omega⟩
      rw [Int.pow_succ, ← Int.mul_assoc, ← hm]
      omega
    · exact ⟨m, 0, by simp, h10, by omega⟩

theorem parts_in {m : Int} (h : In m) (h0 : m ≠ 0) : ∃ q j, m = q * 10 ^ j ∧ q % 10 ≠ 0 ∧ j ≤ 18 := by
  obtain ⟨q, j, hm, hq, hj⟩ := parts_of 19 m h0 (by have := h.1; have := h.2; have : (10 : Nat) ^ 19 = 10000000000000000000 := by decide
                                                    omega)
  exact ⟨q, j, hm, hq, by omega⟩

theorem q_in {m q : Int} {j : Nat} (h : In m) (hm : m = q * 10 ^ j) : In q := by
  have h1 := h.1
  have h2 := h.2
  have hp := pow_pos10 j
  rw [hm] at h1 h2
  have : q.natAbs ≤ (q * 10 ^ j).natAbs := by
    rw [Int.natAbs_mul]
    exact Nat.le_mul_of_pos_right _ (by omega)
  constructor
  · by_cases hq : 0 ≤ q
    · omega
    · have : q * 10 ^ j ≤ 0 := by
        have := Int.mul_le_mul_of_nonneg_right (show q ≤ 0 by omega) (show 0 ≤ (10 : Int) ^ j by omega)
        simpa using this
      omega
  · by_cases hq : q ≤ 0
    · omega
    · have : 0 ≤ q * 10 ^ j := Int.mul_nonneg (by omega) (by omega)
      omega

theorem j_le {m q : Int} {j : Nat} (h : In m) (hm : m = q * 10 ^ j) (hq : q ≠ 0) : j ≤ 18 := by
  have h1 := h.1
  have h2 := h.2
  rcases Nat.lt_or_ge 18 j with hj | hj
  · exfalso
    have e : (q * 10 ^ j).natAbs = q.natAbs * 10 ^ j := by rw [Int.natAbs_mul, Int.natAbs_pow]; rfl
    have hp : (10 : Nat) ^ 19 ≤ 10 ^ j := Nat.pow_le_pow_right (by decide) hj
    have : 10 ^ j ≤ q.natAbs * 10 ^ j := Nat.le_mul_of_pos_left _ (by omega)
    have e19 : (10 : Nat) ^ 19 = 10000000000000000000 := by decide
    rw [hm] at h1 h2
    omega
  · exact hj

theorem norm_in {m e : Int} (hm : In m) : In (norm m e).1.1 := by
  by_cases h0 : m = 0
  · subst h0; rw [norm_zero]; constructor <;> decide
  · obtain ⟨q, j, h, hq, hj⟩ := parts_in hm h0
    rw [norm_of h hq (by omega)]
    split
    · exact q_in hm h
    · constructor <;> decide

theorem norm_exp {m e : Int} (hm : In m) : -32768 ≤ (norm m e).1.2 ∧ (norm m e).1.2 ≤ 32767 := by
  by_cases h0 : m = 0
  · subst h0; rw [norm_zero]; decide
  · obtain ⟨q, j, h, hq, hj⟩ := parts_in hm h0
    rw [norm_of h hq (by omega)]
    split
    · rename_i ho
      simpa [okExp] using ho
    · decide

theorem norm_exp_in {m e : Int} (hm : In m) : In (norm m e).1.2 := by
  have := norm_exp (e := e) hm
  constructor <;> omega

theorem norm_false {m e : Int} (h : (norm m e).2 = false) : (norm m e).1 = (0, 0) := by
  unfold norm at h ⊢
  split
  · rfl
  · rename_i h0
    rw [if_neg h0] at h
    split
    · rename_i h1
      rw [if_pos h1] at h
      cases h
    · rfl

theorem norm_right {m e : Int} (hm : In m) (h : (norm m e).2 = true) : Right (norm m e).1.1 (norm m e).1.2 := by
  by_cases h0 : m = 0
  · subst h0; rw [norm_zero]; exact .inl ⟨rfl, rfl⟩
  · obtain ⟨q, j, hd, hq, hj⟩ := parts_in hm h0
    rw [norm_of hd hq (by omega)] at h ⊢
    split
    · rename_i ho
      exact .inr ⟨hq, by simpa [okExp] using ho⟩
    · exact .inl ⟨rfl, rfl⟩

theorem norm_self {m e : Int} (h : Right m e) : norm m e = ((m, e), true) := by
  rcases h with ⟨rfl, rfl⟩ | ⟨h10, h1, h2⟩
  · exact norm_zero 0
  · rw [norm_of (q := m) (j := 0) (by simp) h10 (by omega)]
    simp [okExp, h1, h2]

theorem rightB_iff {m e : Int} (hm : In m) : rightB m e = true ↔ Right m e := by
  unfold rightB
  rw [decide_eq_true_iff]
  constructor
  · intro h
    have := norm_right (e := e) hm (by rw [h])
    rw [h] at this
    exact this
  · exact norm_self

theorem rightB_of {m e : Int} (h : Right m e) : rightB m e = true := by unfold rightB; rw [decide_eq_true_iff]; exact norm_self h
theorem rightB_not {m e : Int} (hm : In m) (h : ¬ Right m e) : rightB m e = false := by
  cases hr : rightB m e with
  | false => rfl
  | true => exact absurd ((rightB_iff hm).1 hr) h

instance (m e : Int) : Decidable (Right m e) := by unfold Right; exact inferInstance

/-- a nought behind the digits is one more in the exponent -/
theorem norm_ten {m e : Int} (hm : In m) (h10 : In (10 * m)) : norm (10 * m) (e - 1) = norm m e := by
  by_cases h0 : m = 0
  · subst h0; rw [show (10 : Int) * 0 = 0 by rfl, norm_zero, norm_zero]
  · obtain ⟨q, j, h, hq, hj⟩ := parts_in hm h0
    have e1 : 10 * m = q * 10 ^ (j + 1) := by rw [Int.pow_succ, ← Int.mul_assoc, ← h]; omega
    have hj1 := j_le h10 e1 (by omega)
    rw [norm_of e1 hq (by omega), norm_of h hq (by omega), show e - 1 + ((j + 1 : Nat) : Int) = e + (j : Nat) by omega]

/-- the right form of a whole number -/
theorem norm_of_int {n : Int} (hn : In n) : (norm n 0).2 = true := by
  by_cases h0 : n = 0
  · subst h0; rfl
  · obtain ⟨q, j, h, hq, hj⟩ := parts_in hn h0
    rw [norm_of h hq (by omega)]
    have : okExp (0 + (j : Nat)) = true := by simp [okExp]; omega
    rw [if_pos this]

end Go.Proofs.YtkebngldmcoaaaaGreatDoor
