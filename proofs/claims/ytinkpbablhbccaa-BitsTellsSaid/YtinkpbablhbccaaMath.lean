/-
  Plain mathematics of bits in bytes. Nothing is claimed here by itself.
-/
import Derived.WalkKit
namespace Go.Proofs.Ytinkpbablhbccaa

/-- the number whose bits below n are f's -/
def ob (f : Nat → Bool) : Nat → Nat
  | 0 => 0
  | n + 1 => ob f n ||| (f n).toNat <<< n

theorem ob_bit (f : Nat → Bool) (n i : Nat) : (ob f n).testBit i = (decide (i < n) && f i) := by
  induction n with
  | zero => simp [ob]
  | succ n ih =>
    rw [ob, Nat.testBit_or, ih, Nat.testBit_shiftLeft]
    by_cases h : i < n
    · have h1 : ¬ i ≥ n := by omega
      have h2 : i < n + 1 := by omega
      simp [h, h1, h2]
    · by_cases he : i = n
      · subst he
        cases hf : f i <;> simp
      · have h2 : ¬ i < n + 1 := by omega
        have h3 : i ≥ n := by omega
        have h4 : ∃ d, i - n = d + 1 := ⟨i - n - 1, by omega⟩
        obtain ⟨d, hd⟩ := h4
        rw [hd]
        cases hf : f n <;> simp [h, h2, Nat.testBit_succ]

theorem ob_lt (f : Nat → Bool) (n : Nat) : ob f n < 2 ^ n := by
  apply Nat.lt_pow_two_of_testBit
  intro i hi
  rw [ob_bit]
  have : ¬ i < n := by omega
  simp [this]

/-- the byte at the place j of the first k of l's numbers, packed -/
def pkb (l : List Int) (k j : Nat) : Nat := ob (fun i => decide (8 * j + i < k) && (l.getD (8 * j + i) 0 != 0)) 8

/-- the m bytes of the first k of l's numbers -/
def pk (l : List Int) (k m : Nat) : List Int := (List.range m).map fun j => (pkb l k j : Int)

theorem pkb_lt (l : List Int) (k j : Nat) : pkb l k j < 256 := ob_lt _ 8

theorem pkb_bit (l : List Int) (k j i : Nat) : (pkb l k j).testBit i = (decide (i < 8) && (decide (8 * j + i < k) && (l.getD (8 * j + i) 0 != 0))) := ob_bit _ 8 i

theorem pk_len (l : List Int) (k m : Nat) : (pk l k m).length = m := by simp [pk]
theorem pk_get (l : List Int) (k m j : Nat) (h : j < m) : (pk l k m).getD j 0 = (pkb l k j : Int) := by
  simp [pk, h]

theorem pkb_zero (l : List Int) (j : Nat) : pkb l 0 j = 0 := by
  apply Nat.eq_of_testBit_eq
  intro i
  rw [pkb_bit]
  simp

theorem pkb_off (l : List Int) (k j : Nat) (h : l.getD k 0 = 0) : pkb l (k + 1) j = pkb l k j := by
  apply Nat.eq_of_testBit_eq
  intro i
  rw [pkb_bit, pkb_bit]
  by_cases e : 8 * j + i = k
  · subst e; simp only [h]; simp
  · have : (8 * j + i < k + 1) ↔ (8 * j + i < k) := by omega
    simp [this]

theorem pkb_far (l : List Int) (k j : Nat) (h : j ≠ k / 8) : pkb l (k + 1) j = pkb l k j := by
  apply Nat.eq_of_testBit_eq
  intro i
  rw [pkb_bit, pkb_bit]
  by_cases hi : i < 8
  · have : (8 * j + i < k + 1) ↔ (8 * j + i < k) := by omega
    simp [this]
  · simp [hi]

theorem pkb_on (l : List Int) (k : Nat) (h : l.getD k 0 ≠ 0) : pkb l (k + 1) (k / 8) = pkb l k (k / 8) ||| 2 ^ (k % 8) := by
  apply Nat.eq_of_testBit_eq
  intro i
  rw [Nat.testBit_or, pkb_bit, pkb_bit, Nat.testBit_two_pow]
  by_cases hi : i < 8
  · by_cases e : k % 8 = i
    · have e2 : 8 * (k / 8) + i = k := by omega
      rw [e2]
      simp only [e]
      simpa [hi] using h
    · have : (8 * (k / 8) + i < k + 1) ↔ (8 * (k / 8) + i < k) := by omega
      simp [this, e]
  · have : ¬ k % 8 = i := by omega
    simp [hi, this]

theorem pk_zero (l : List Int) (m : Nat) : pk l 0 m = List.replicate m 0 := by
  apply List.ext_getElem
  · simp [pk]
  · intro j h1 h2
    simp [pk, pkb_zero]

theorem pk_off (l : List Int) (k m : Nat) (h : l.getD k 0 = 0) : pk l (k + 1) m = pk l k m := by
  simp [pk, pkb_off l k _ h]

theorem pk_on (l : List Int) (k m : Nat) (h : l.getD k 0 ≠ 0) : pk l (k + 1) m = (pk l k m).set (k / 8) ((pkb l k (k / 8) ||| 2 ^ (k % 8) : Nat) : Int) := by
  apply List.ext_getElem
  · simp [pk]
  · intro j h1 h2
    rw [List.getElem_set]
    by_cases e : k / 8 = j
    · subst e
      simp [pk, pkb_on l k h]
    · simp [pk, e, pkb_far l k j (fun x => e x.symm)]

/-- how many bytes n bits have -/
def bytesN (n : Nat) : Nat := (n + 7) / 8

/-- the number at the place i of which bs are the bytes -/
def upb (bs : List Int) (i : Nat) : Nat := (bs.getD (i / 8) 0).toNat / 2 ^ (i % 8) % 2
/-- the n numbers of which bs are the bytes -/
def up (bs : List Int) (n : Nat) : List Int := (List.range n).map fun i => (upb bs i : Int)
/-- is a bit set behind the first n? -/
def behind (bs : List Int) (n : Nat) : Bool := n % 8 != 0 && (bs.getD (bs.length - 1) 0 / 2 ^ (n % 8) != 0)

theorem up_len (bs : List Int) (n : Nat) : (up bs n).length = n := by simp [up]
theorem up_get (bs : List Int) (n i : Nat) (h : i < n) : (up bs n).getD i 0 = (upb bs i : Int) := by simp [up, h]
theorem upb_lt (bs : List Int) (i : Nat) : upb bs i < 2 := Nat.mod_lt _ (by decide)
theorem upb_bit (bs : List Int) (i : Nat) : (upb bs i = 1) ↔ (bs.getD (i / 8) 0).toNat.testBit (i % 8) = true := by
  rw [Nat.testBit_eq_decide_div_mod_eq]; simp [upb]

/-- what was packed is unpacked as it was -/
theorem upb_pk (l : List Int) (i : Nat) (h : i < l.length) : (upb (pk l l.length (bytesN l.length)) i : Int) = if l.getD i 0 = 0 then 0 else 1 := by
  have hb : i / 8 < bytesN l.length := by unfold bytesN; omega
  have e : 8 * (i / 8) + i % 8 = i := by omega
  have key : (upb (pk l l.length (bytesN l.length)) i = 1) ↔ l.getD i 0 ≠ 0 := by
    rw [upb_bit, pk_get _ _ _ _ hb, Int.toNat_natCast, pkb_bit, e]
    have : i % 8 < 8 := by omega
    simp [this, h]
  have hl := upb_lt (pk l l.length (bytesN l.length)) i
  by_cases hz : l.getD i 0 = 0
  · rw [if_pos hz]
    have : ¬ upb (pk l l.length (bytesN l.length)) i = 1 := fun x => key.1 x hz
    omega
  · rw [if_neg hz]
    have := key.2 hz
    omega

theorem behind_pk (l : List Int) : behind (pk l l.length (bytesN l.length)) l.length = false := by
  unfold behind
  by_cases h : l.length % 8 = 0
  · simp [h]
  · have hm : bytesN l.length - 1 < bytesN l.length := by unfold bytesN; omega
    rw [pk_len, pk_get _ _ _ _ hm]
    have hlt : pkb l l.length (bytesN l.length - 1) < 2 ^ (l.length % 8) := by
      apply Nat.lt_pow_two_of_testBit
      intro i hi
      rw [pkb_bit]
      by_cases h8 : i < 8
      · have : ¬ 8 * (bytesN l.length - 1) + i < l.length := by unfold bytesN; omega
        simp [this]
      · simp [h8]
    have : ((pkb l l.length (bytesN l.length - 1) : Nat) : Int) / 2 ^ (l.length % 8) = 0 := by
      have e : ((2 : Int) ^ (l.length % 8)) = ((2 ^ (l.length % 8) : Nat) : Int) := by simp
      rw [e, ← Int.natCast_ediv, Nat.div_eq_of_lt hlt]
      rfl
    rw [this]
    simp

end Go.Proofs.Ytinkpbablhbccaa
