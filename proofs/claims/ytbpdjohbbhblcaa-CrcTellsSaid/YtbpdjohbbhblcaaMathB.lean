/-
  Mathematics of bytes and the number that they are. Nothing is claimed here by itself.
-/
import Derived.Test.YtbpdjohbbhblcaaMath
namespace Go.Proofs.Ytbpdjohbbhblcaa

theorem mul_xor_pow (a b k : Nat) : (a ^^^ b) * 2 ^ k = a * 2 ^ k ^^^ b * 2 ^ k := by
  have := Nat.shiftLeft_xor_distrib (a := a) (b := b) (i := k)
  simpa [Nat.shiftLeft_eq] using this

theorem le_app (a b : List Int) : le (a ++ b) = le a ^^^ le b * 2 ^ (8 * a.length) := by
  induction a with
  | nil => simp [le]
  | cons c a ih =>
    rw [List.cons_append, le, ih, le, mul_xor_pow, List.length_cons, show 8 * (a.length + 1) = 8 * a.length + 8 by omega, Nat.pow_add, ← Nat.mul_assoc, Nat.xor_assoc]

theorem Byt.tail {c : Int} {cs : List Int} (h : Byt (c :: cs)) : Byt cs := fun x hx => h x (by simp [hx])
theorem Byt.app {a b : List Int} (ha : Byt a) (hb : Byt b) : Byt (a ++ b) := fun x hx => by
  rcases List.mem_append.1 hx with h | h
  · exact ha x h
  · exact hb x h
theorem Byt.left {a b : List Int} (h : Byt (a ++ b)) : Byt a := fun x hx => h x (by simp [hx])
theorem Byt.right {a b : List Int} (h : Byt (a ++ b)) : Byt b := fun x hx => h x (by simp [hx])
theorem Byt.take {a : List Int} (h : Byt a) (n : Nat) : Byt (a.take n) := fun x hx => h x (List.mem_of_mem_take hx)
theorem Byt.drop {a : List Int} (h : Byt a) (n : Nat) : Byt (a.drop n) := fun x hx => h x (List.mem_of_mem_drop hx)
theorem Byt.at_ {a : List Int} (h : Byt a) (i : Nat) : 0 ≤ a.getD i 0 ∧ a.getD i 0 < 256 := by
  by_cases hi : i < a.length
  · exact h _ (by simp [hi])
  · simp [List.getElem?_eq_none (show a.length ≤ i by omega)]
theorem byt_nil : Byt [] := fun x hx => by cases hx

theorem le_lt {a : List Int} (h : Byt a) : le a < 2 ^ (8 * a.length) := by
  induction a with
  | nil => simp [le]
  | cons c a ih =>
    have hc := h c (by simp)
    have := ih h.tail
    rw [le, List.length_cons, show 8 * (a.length + 1) = 8 * a.length + 8 by omega]
    refine Nat.xor_lt_two_pow ?_ ?_
    · calc c.toNat < 2 ^ 8 := by omega
        _ ≤ 2 ^ (8 * a.length + 8) := Nat.pow_le_pow_right (by decide) (by omega)
    · rw [Nat.pow_add]
      exact Nat.mul_lt_mul_of_pos_right this (by decide)

theorem xor_low (c y : Nat) (hc : c < 256) : (c ^^^ y * 2 ^ 8) % 256 = c ∧ (c ^^^ y * 2 ^ 8) / 256 = y := by
  constructor
  · have h := Nat.xor_mod_two_pow (a := c) (b := y * 2 ^ 8) (n := 8)
    rw [show (2 : Nat) ^ 8 = 256 from rfl] at h ⊢
    rw [h, Nat.mul_mod_left, Nat.xor_zero, Nat.mod_eq_of_lt hc]
  · have h := xor_div c (y * 2 ^ 8) 8
    rw [show (2 : Nat) ^ 8 = 256 from rfl] at h ⊢
    rw [h, Nat.div_eq_of_lt hc, Nat.zero_xor, Nat.mul_div_cancel _ (by decide)]

/-- the four bytes of a number -/
def le4 (n : Nat) : List Int := [((n % 256 : Nat) : Int), ((n / 256 % 256 : Nat) : Int), ((n / 65536 % 256 : Nat) : Int), ((n / 16777216 % 256 : Nat) : Int)]
theorem le4_len (n : Nat) : (le4 n).length = 4 := rfl
theorem le4_byt (n : Nat) : Byt (le4 n) := by
  intro c hc
  simp only [le4, List.mem_cons, List.not_mem_nil, or_false] at hc
  rcases hc with rfl | rfl | rfl | rfl <;> omega

theorem le_le4 (n : Nat) (h : n < 4294967296) : le (le4 n) = n := by
  simp only [le4, le, Int.toNat_natCast, Nat.zero_mul, Nat.xor_zero]
  have e3 : n / 16777216 % 256 = n / 16777216 := Nat.mod_eq_of_lt (by omega)
  have e2 : n / 65536 % 256 ^^^ n / 16777216 % 256 * 2 ^ 8 = n / 65536 := by
    have := xor_split (n / 65536)
    rw [Nat.div_div_eq_div_mul] at this
    rw [e3, Nat.xor_comm]
    exact this.symm
  have e1 : n / 256 % 256 ^^^ n / 65536 * 2 ^ 8 = n / 256 := by
    have := xor_split (n / 256)
    rw [Nat.div_div_eq_div_mul] at this
    rw [Nat.xor_comm]
    exact this.symm
  rw [e2, e1, Nat.xor_comm]
  exact (xor_split n).symm

theorem le_inj {a b : List Int} (ha : Byt a) (hb : Byt b) (hl : a.length = b.length) (h : le a = le b) : a = b := by
  induction a generalizing b with
  | nil => exact (List.eq_nil_of_length_eq_zero (by simpa using hl.symm)).symm
  | cons c a ih =>
    cases b with
    | nil => simp at hl
    | cons d b =>
      have hc := ha c (by simp)
      have hd := hb d (by simp)
      simp only [le] at h
      have h1 := xor_low c.toNat (le a) (by omega)
      have h2 := xor_low d.toNat (le b) (by omega)
      rw [h] at h1
      have hab := ih ha.tail hb.tail (by simpa using hl) (h1.2.symm.trans h2.2)
      have hcd : c.toNat = d.toNat := h1.1.symm.trans h2.1
      rw [hab, show c = d by omega]

theorem le4_le {q : List Int} (h : Byt q) (hl : q.length = 4) : le4 (le q) = q := by
  have h1 := le_lt h
  rw [hl] at h1
  exact le_inj (le4_byt _) h (by rw [hl]; rfl) (le_le4 _ h1)

/-- one byte more -/
theorem le_snoc (a : List Int) (c : Int) (ha : Byt a) : le (a ++ [c]) = le a ||| c.toNat * 2 ^ (8 * a.length) := by
  rw [le_app]
  simp only [le, Nat.zero_mul, Nat.xor_zero]
  have h := le_lt ha
  generalize le a = x at *
  generalize c.toNat = y
  generalize 8 * a.length = k at *
  apply Nat.eq_of_testBit_eq
  intro i
  rw [Nat.testBit_xor, Nat.testBit_or]
  by_cases hi : i < k
  · rw [show (y * 2 ^ k).testBit i = false by rw [Nat.mul_comm, Nat.testBit_two_pow_mul]; simp; omega]
    simp
  · rw [Nat.testBit_lt_two_pow (x := x) (i := i) (Nat.lt_of_lt_of_le h (Nat.pow_le_pow_right (by decide) (by omega)))]
    simp

/-- one byte turned -/
theorem le_set (a : List Int) (q v : Nat) (hq : q < a.length) (h0 : ∀ i, 0 ≤ a.getD i 0) : le (a.set q (((a.getD q 0).toNat ^^^ v : Nat) : Int)) = le a ^^^ v * 2 ^ (8 * q) := by
  induction a generalizing q with
  | nil => simp at hq
  | cons c a ih =>
    cases q with
    | zero => simp [le]; ac_rfl
    | succ q =>
      have := ih q (by simpa using hq) (fun i => by simpa using h0 (i + 1))
      simp only [List.set_cons_succ, le, List.getD_cons_succ]
      rw [this, mul_xor_pow, show 8 * (q + 1) = 8 * q + 8 by omega, Nat.pow_add, ← Nat.mul_assoc, Nat.xor_assoc]

theorem byt_set {a : List Int} (h : Byt a) (q v : Nat) (hv : v < 256) : Byt (a.set q (((a.getD q 0).toNat ^^^ v : Nat) : Int)) := by
  intro c hc
  rcases List.mem_or_eq_of_mem_set hc with h1 | h1
  · exact h c h1
  · have h2 := h.at_ q
    have h3 : (a.getD q 0).toNat ^^^ v < 2 ^ 8 := Nat.xor_lt_two_pow (by omega) hv
    rw [h1]
    omega

/-- the lowest bits of the mask, one more of them -/
theorem mask_on (m i k : Nat) (h : m / 2 ^ i % 2 = 1) : m % 2 ^ (i + 1) * 2 ^ k = m % 2 ^ i * 2 ^ k ^^^ 2 ^ (k + i) := by
  rw [show 2 ^ (k + i) = 2 ^ i * 2 ^ k by rw [Nat.pow_add, Nat.mul_comm], ← mul_xor_pow]
  congr 1
  apply Nat.eq_of_testBit_eq
  intro j
  rw [Nat.testBit_xor, Nat.testBit_mod_two_pow, Nat.testBit_mod_two_pow, Nat.testBit_two_pow]
  by_cases e : j = i
  · subst e
    have : m.testBit j = true := by rw [Nat.testBit_eq_decide_div_mod_eq]; simp [h]
    simp [this]
  · have e2 : ¬ i = j := fun h => e h.symm
    by_cases h1 : j < i
    · simp [h1, e2, show j < i + 1 by omega]
    · simp [h1, e2, show ¬ j < i + 1 by omega]
theorem mask_off (m i k : Nat) (h : ¬ m / 2 ^ i % 2 = 1) : m % 2 ^ (i + 1) * 2 ^ k = m % 2 ^ i * 2 ^ k := by
  congr 1
  apply Nat.eq_of_testBit_eq
  intro j
  rw [Nat.testBit_mod_two_pow, Nat.testBit_mod_two_pow]
  by_cases e : j = i
  · subst e
    have : m.testBit j = false := by rw [Nat.testBit_eq_decide_div_mod_eq]; simp [h]
    simp [this]
  · by_cases h1 : j < i
    · simp [h1, show j < i + 1 by omega]
    · simp [h1, show ¬ j < i + 1 by omega]
end Go.Proofs.Ytbpdjohbbhblcaa
