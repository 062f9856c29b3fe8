/-
  What numbers are worth, and which of two is worth less. Nothing is claimed here by itself.
-/
import Derived.Test.YtlmhddaelfolfaaDoorDigs
import Derived.Lib.Small
namespace Go.Proofs.YtlmhddaelfolfaaDoor
open Go.Lib

theorem cmp_lt {x y : Int} (h : x < y) : compareInt x y = -1 := by unfold compareInt; rw [if_pos h]
theorem cmp_gt {x y : Int} (h : y < x) : compareInt x y = 1 := by unfold compareInt; rw [if_neg (by omega), if_pos h]
theorem cmp_eq (x : Int) : compareInt x x = 0 := by unfold compareInt; rw [if_neg (by omega), if_neg (by omega)]

theorem cmp_cases (x y : Int) : (x < y ∧ compareInt x y = -1) ∨ (x = y ∧ compareInt x y = 0) ∨ (y < x ∧ compareInt x y = 1) := by
  rcases Int.lt_trichotomy x y with h | h | h
  · exact .inl ⟨h, cmp_lt h⟩
  · subst h; exact .inr (.inl ⟨rfl, cmp_eq x⟩)
  · exact .inr (.inr ⟨h, cmp_gt h⟩)

theorem cmp_swap (x y : Int) : compareInt y x = -compareInt x y := by
  rcases cmp_cases x y with ⟨h, e⟩ | ⟨h, e⟩ | ⟨h, e⟩
  · rw [e, cmp_gt h]; rfl
  · subst h; rw [e]; rfl
  · rw [e, cmp_lt h]

theorem cmp_neg (x y : Int) : compareInt (-x) (-y) = -compareInt x y := by
  rcases cmp_cases x y with ⟨h, e⟩ | ⟨h, e⟩ | ⟨h, e⟩
  · rw [e, cmp_gt (by omega)]; rfl
  · subst h; rw [e, cmp_eq]; rfl
  · rw [e, cmp_lt (by omega)]

theorem cmp_mul (x y : Int) {c : Int} (hc : 0 < c) : compareInt (x * c) (y * c) = compareInt x y := by
  rcases cmp_cases x y with ⟨h, e⟩ | ⟨h, e⟩ | ⟨h, e⟩
  · rw [e, cmp_lt (Int.mul_lt_mul_of_pos_right h hc)]
  · subst h; rw [e, cmp_eq]
  · rw [e, cmp_gt (Int.mul_lt_mul_of_pos_right h hc)]

theorem cmp_range (x y : Int) : -1 ≤ compareInt x y ∧ compareInt x y ≤ 1 := by
  rcases cmp_cases x y with ⟨h, e⟩ | ⟨h, e⟩ | ⟨h, e⟩ <;> rw [e] <;> omega

/-- what a number is worth, times 10^32768; one that is not right counts as 0 -/
def worth (m e : Int) : Int := if rightB m e = true then m * 10 ^ (e + 32768).toNat else 0

theorem worth_right {m e : Int} (h : rightB m e = true) : worth m e = m * 10 ^ (e + 32768).toNat := by rw [worth, if_pos h]
theorem worth_wrong {m e : Int} (h : rightB m e = false) : worth m e = 0 := by rw [worth, h]; rfl

theorem worth_zero : worth 0 0 = 0 := by rw [worth, Int.zero_mul, ite_self]

/-- the number that counts -/
def cnt (m e : Int) : Dc := if rightB m e = true then (m, e) else (0, 0)
theorem cnt_right (m e : Int) : rightB (cnt m e).1 (cnt m e).2 = true := by
  unfold cnt
  split
  · assumption
  · decide
theorem cnt_worth (m e : Int) : worth (cnt m e).1 (cnt m e).2 = worth m e := by
  unfold cnt
  split
  · rfl
  · rename_i h
    rw [worth_wrong (m := m) (e := e) (by simpa using h)]
    show worth 0 0 = 0
    rw [worth_zero]
theorem cnt_in {m e : Int} (hm : In m) (he : In e) : In (cnt m e).1 ∧ In (cnt m e).2 := by
  unfold cnt
  split
  · exact ⟨hm, he⟩
  · constructor <;> constructor <;> decide

theorem nd_low {u : Nat} (h : 0 < u) : 10 ^ (nDigits u - 1) ≤ u := by
  induction u using Nat.strongRecOn with
  | _ u ih =>
    by_cases hu : u < 10
    · rw [nDigits_small hu]; show 1 ≤ u; omega
    · rw [nDigits_big hu]
      have h1 := ih (u / 10) (by omega) (by omega)
      have h2 := nDigits_pos (u / 10)
      rw [show nDigits (u / 10) + 1 - 1 = (nDigits (u / 10) - 1) + 1 by omega, Nat.pow_succ]
      omega

theorem nd_le {m : Int} (hm : In m) : nDigits m.natAbs ≤ 19 := by
  have h1 := hm.1; have h2 := hm.2
  have hp : (10 : Nat) ^ 19 = 10000000000000000000 := by decide
  have := dd_len (u := m.natAbs) (k := 19) (by omega) (by omega)
  rw [decDigits_length] at this
  exact this

/-- a number's size with nineteen places -/
def fullS (u : Nat) : Nat := u * 10 ^ (19 - nDigits u)

theorem full_range {u : Nat} (h0 : 0 < u) (h19 : nDigits u ≤ 19) : 10 ^ 18 ≤ fullS u ∧ fullS u < 10 ^ 19 := by
  have h1 := nd_low h0
  have h2 := lt_pow_nDigits u
  have h3 := nDigits_pos u
  constructor
  · calc 10 ^ 18 = 10 ^ (nDigits u - 1) * 10 ^ (19 - nDigits u) := by rw [← Nat.pow_add]; congr 1; omega
      _ ≤ fullS u := Nat.mul_le_mul_right _ h1
  · calc fullS u < 10 ^ nDigits u * 10 ^ (19 - nDigits u) := Nat.mul_lt_mul_of_pos_right h2 (Nat.pow_pos (by decide))
      _ = 10 ^ 19 := by rw [← Nat.pow_add]; congr 1; omega

theorem pow_le {a b : Nat} (h : a ≤ b) : (10 : Int) ^ a ≤ 10 ^ b := by
  have : (10 : Nat) ^ a ≤ 10 ^ b := Nat.pow_le_pow_right (by decide) h
  exact_mod_cast this

/-- of two sizes of nineteen places the exponents decide first -/
theorem cmp_full {S T : Int} {a b : Nat} (hS : 10 ^ 18 ≤ S) (hS' : S < 10 ^ 19) (hT : 10 ^ 18 ≤ T) (hT' : T < 10 ^ 19) :
    compareInt (S * 10 ^ a) (T * 10 ^ b) = if a < b then -1 else if b < a then 1 else compareInt S T := by
  have key : ∀ (S T : Int) (a b : Nat), S < 10 ^ 19 → 10 ^ 18 ≤ T → a < b → S * 10 ^ a < T * 10 ^ b := fun S T a b hS' hT h => by
    have h1 : S * 10 ^ a < 10 ^ 19 * 10 ^ a := Int.mul_lt_mul_of_pos_right hS' (pow_pos10 a)
    have h2 : (10 : Int) ^ 19 * 10 ^ a = 10 ^ 18 * 10 ^ (a + 1) := by rw [← Int.pow_add, ← Int.pow_add]; congr 1; omega
    have h3 : (10 : Int) ^ 18 * 10 ^ (a + 1) ≤ T * 10 ^ (a + 1) := Int.mul_le_mul_of_nonneg_right hT (by have := pow_pos10 (a + 1); omega)
    have h4 : T * 10 ^ (a + 1) ≤ T * 10 ^ b := Int.mul_le_mul_of_nonneg_left (pow_le h) (by have := pow_pos10 18; omega)
    omega
  by_cases h : a < b
  · rw [if_pos h, cmp_lt (key S T a b hS' hT h)]
  · rw [if_neg h]
    by_cases h' : b < a
    · rw [if_pos h', cmp_gt (key T S b a hT' hS h')]
    · rw [if_neg h', show a = b by omega, cmp_mul _ _ (pow_pos10 b)]

theorem sgn_worth {m e : Int} (h : rightB m e = true) : compareInt (worth m e) 0 = compareInt m 0 := by
  rw [worth_right h]
  have := cmp_mul m 0 (pow_pos10 (e + 32768).toNat)
  rw [Int.zero_mul] at this
  exact this

theorem right_zero {e : Int} (h : rightB 0 e = true) : e = 0 := by
  rcases (rightB_iff (by constructor <;> decide)).1 h with ⟨_, h⟩ | ⟨h, _⟩
  · exact h
  · exact absurd rfl h

/-- the exponent that goes with the nineteen places -/
def fullE (m e : Int) : Int := e - ((19 - nDigits m.natAbs : Nat) : Int)

theorem abs_full {m e : Int} (hm : In m) (h : rightB m e = true) : (m.natAbs : Int) * 10 ^ (e + 32768).toNat * 10 ^ 19 = (fullS m.natAbs : Nat) * 10 ^ (fullE m e + 32787).toNat := by
  have he : -32768 ≤ e := by rcases (rightB_iff hm).1 h with ⟨_, h⟩ | h <;> omega
  have h19 := nd_le hm
  have h1 := nDigits_pos m.natAbs
  rw [fullS, fullE, Int.natCast_mul, Int.natCast_pow, Int.mul_assoc, Int.mul_assoc, ← Int.pow_add, show ((10 : Nat) : Int) = 10 by rfl, ← Int.pow_add]
  congr 2
  omega

/-- the sizes of two right numbers that are not 0 -/
def bySize (m e n f : Int) : Int := if compareInt (fullE m e) (fullE n f) = 0 then compareInt (fullS m.natAbs : Nat) (fullS n.natAbs : Nat) else compareInt (fullE m e) (fullE n f)

theorem cmp_abs {m e n f : Int} (hm : In m) (hn : In n) (hr : rightB m e = true) (hr' : rightB n f = true) (h0 : m ≠ 0) (h0' : n ≠ 0) :
    compareInt ((m.natAbs : Int) * 10 ^ (e + 32768).toNat) ((n.natAbs : Int) * 10 ^ (f + 32768).toNat) = bySize m e n f := by
  have he : -32768 ≤ e := by rcases (rightB_iff hm).1 hr with ⟨_, h⟩ | h <;> omega
  have hf : -32768 ≤ f := by rcases (rightB_iff hn).1 hr' with ⟨_, h⟩ | h <;> omega
  have hp : (0 : Int) < 10 ^ 19 := pow_pos10 19
  unfold bySize
  rw [← cmp_mul _ _ hp, abs_full hm hr, abs_full hn hr']
  obtain ⟨a1, a2⟩ := full_range (u := m.natAbs) (by omega) (nd_le hm)
  obtain ⟨b1, b2⟩ := full_range (u := n.natAbs) (by omega) (nd_le hn)
  have q1 := nd_le hm
  have q2 := nDigits_pos m.natAbs
  have q3 := nd_le hn
  have q4 := nDigits_pos n.natAbs
  rw [cmp_full (by exact_mod_cast a1) (by exact_mod_cast a2) (by exact_mod_cast b1) (by exact_mod_cast b2)]
  have hE : -32787 ≤ fullE m e := by unfold fullE; omega
  have hF : -32787 ≤ fullE n f := by unfold fullE; omega
  rcases cmp_cases (fullE m e) (fullE n f) with ⟨h, k⟩ | ⟨h, k⟩ | ⟨h, k⟩
  · rw [k, if_pos (by omega), if_neg (by decide)]
  · rw [k, h, if_neg (by omega), if_neg (by omega), if_pos rfl]
  · rw [k, if_neg (by omega), if_pos (by omega), if_neg (by decide)]

theorem cmp_sizes_pos {m e n f : Int} (hm : In m) (hn : In n) (hr : rightB m e = true) (hr' : rightB n f = true) (h0 : 0 < m) (h0' : 0 < n) :
    compareInt (worth m e) (worth n f) = bySize m e n f := by
  rw [← cmp_abs hm hn hr hr' (by omega) (by omega), worth_right hr, worth_right hr', show (m.natAbs : Int) = m by omega, show (n.natAbs : Int) = n by omega]

theorem cmp_sizes_neg {m e n f : Int} (hm : In m) (hn : In n) (hr : rightB m e = true) (hr' : rightB n f = true) (h0 : m < 0) (h0' : n < 0) :
    compareInt (worth m e) (worth n f) = -bySize m e n f := by
  rw [← cmp_abs hm hn hr hr' (by omega) (by omega), worth_right hr, worth_right hr', show (m.natAbs : Int) = -m by omega, show (n.natAbs : Int) = -n by omega, Int.neg_mul, Int.neg_mul, cmp_neg, Int.neg_neg]

/-- the signs decide, where they differ -/
theorem cmp_signs {m e n f : Int} (hr : rightB m e = true) (hr' : rightB n f = true) (h : compareInt (compareInt m 0) (compareInt n 0) ≠ 0) :
    compareInt (worth m e) (worth n f) = compareInt (compareInt m 0) (compareInt n 0) := by
  have h1 := sgn_worth hr
  have h2 := sgn_worth hr'
  generalize worth m e = x at *
  generalize worth n f = y at *
  rcases cmp_cases m 0 with ⟨hm, em⟩ | ⟨hm, em⟩ | ⟨hm, em⟩ <;> rcases cmp_cases n 0 with ⟨hn, en⟩ | ⟨hn, en⟩ | ⟨hn, en⟩ <;>
    rcases cmp_cases x 0 with ⟨hx, ex⟩ | ⟨hx, ex⟩ | ⟨hx, ex⟩ <;> rcases cmp_cases y 0 with ⟨hy, ey⟩ | ⟨hy, ey⟩ | ⟨hy, ey⟩ <;>
    rw [em, en] at h ⊢ <;> rw [em, ex] at h1 <;> rw [en, ey] at h2 <;>
    first
    | exact absurd h1 (by decide)
    | exact absurd h2 (by decide)
    | exact absurd rfl h
    | (rw [cmp_lt (by omega)]; rfl)
    | (rw [cmp_gt (by omega)]; rfl)

theorem worth_neg {m e : Int} (h : rightB m e = true) (hm : In m) (hn : In (-m)) : rightB (-m) e = true ∧ worth (-m) e = -worth m e := by
  have h1 : rightB (-m) e = true := by
    rw [rightB_iff hn]
    rcases (rightB_iff hm).1 h with ⟨h1, h2⟩ | ⟨h1, h2⟩
    · exact .inl ⟨by omega, h2⟩
    · exact .inr ⟨by omega, h2⟩
  refine ⟨h1, ?_⟩
  rw [worth_right h, worth_right h1, Int.neg_mul]

end Go.Proofs.YtlmhddaelfolfaaDoor
