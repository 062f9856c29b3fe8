/-
  The number that stands first in a text, and what follows, plainly. Nothing is claimed here by itself.
-/
import Derived.Test.YtkebngldmcoaaaaGreatDoorDigs
namespace Go.Proofs.YtkebngldmcoaaaaGreatDoor
open Go.Lib

def scan : Nat → List UInt8 → Option (Nat × List UInt8)
  | n, [] => some (n, [])
  | n, c :: r =>
    if 48 ≤ c.toNat ∧ c.toNat ≤ 57 then
      (if (9223372036854775808 - (c.toNat - 48)) / 10 < n then none else scan (10 * n + (c.toNat - 48)) r)
    else some (n, c :: r)

theorem scan_nil (n : Nat) : scan n [] = some (n, []) := rfl
theorem scan_other {n : Nat} {c : UInt8} {r : List UInt8} (h : ¬ (48 ≤ c.toNat ∧ c.toNat ≤ 57)) : scan n (c :: r) = some (n, c :: r) := by rw [scan, if_neg h]
theorem scan_far {n : Nat} {c : UInt8} {r : List UInt8} (h : 48 ≤ c.toNat ∧ c.toNat ≤ 57) (h2 : (9223372036854775808 - (c.toNat - 48)) / 10 < n) : scan n (c :: r) = none := by rw [scan, if_pos h, if_pos h2]
theorem scan_on {n : Nat} {c : UInt8} {r : List UInt8} (h : 48 ≤ c.toNat ∧ c.toNat ≤ 57) (h2 : ¬ (9223372036854775808 - (c.toNat - 48)) / 10 < n) : scan n (c :: r) = scan (10 * n + (c.toNat - 48)) r := by rw [scan, if_pos h, if_neg h2]

theorem scan_append : ∀ (l t : List UInt8) (n k : Nat), scan n l = some (k, []) → scan n (l ++ t) = scan k t
  | [], t, n, k, h => by
    rw [scan_nil] at h
    cases h
    rfl
  | c :: l, t, n, k, h => by
    by_cases hd : 48 ≤ c.toNat ∧ c.toNat ≤ 57
    · by_cases hf : (9223372036854775808 - (c.toNat - 48)) / 10 < n
      · rw [scan_far hd hf] at h; cases h
      · rw [scan_on hd hf] at h
        rw [List.cons_append, scan_on hd hf]
        exact scan_append l t _ k h
    · rw [scan_other hd] at h
      cases h

theorem scan_dd0 (u : Nat) (hu : u ≤ 9223372036854775808) : scan 0 (decDigits u) = some (u, []) := by
  induction u using Nat.strongRecOn with
  | _ u ih =>
    by_cases h : u < 10
    · rw [dd_small h, scan_on (by rw [dig_nat h]; omega) (by omega), dig_nat h, scan_nil]
      congr 2
      omega
    · rw [dd_big h, scan_append _ _ _ _ (ih (u / 10) (by omega) (by omega)), scan_on (by rw [dig_nat (by omega)]; omega) (by rw [dig_nat (by omega)]; omega), dig_nat (by omega), scan_nil]
      congr 2
      omega

theorem scan_dd {u : Nat} {t : List UInt8} (hu : u ≤ 9223372036854775808) (ht : t = [] ∨ ∃ t', t = 69 :: t') : scan 0 (decDigits u ++ t) = some (u, t) := by
  rw [scan_append _ _ _ _ (scan_dd0 u hu)]
  rcases ht with rfl | ⟨t', rfl⟩
  · rfl
  · exact scan_other (by decide)

theorem scan_le : ∀ (l : List UInt8) (n k : Nat) (r : List UInt8), n ≤ 9223372036854775808 → scan n l = some (k, r) → k ≤ 9223372036854775808 ∧ r.length ≤ l.length
  | [], n, k, r, hn, h => by rw [scan_nil] at h; cases h; exact ⟨hn, Nat.le_refl _⟩
  | c :: l, n, k, r, hn, h => by
    by_cases hd : 48 ≤ c.toNat ∧ c.toNat ≤ 57
    · by_cases hf : (9223372036854775808 - (c.toNat - 48)) / 10 < n
      · rw [scan_far hd hf] at h; cases h
      · rw [scan_on hd hf] at h
        have := scan_le l _ k r (by omega) h
        exact ⟨this.1, by simp only [List.length_cons]; omega⟩
    · rw [scan_other hd] at h
      cases h
      exact ⟨hn, Nat.le_refl _⟩

/-- is the sign ahead? -/
def below (l : List UInt8) : Bool := l.take 2 == [194, 175]
def body (l : List UInt8) : List UInt8 := if below l = true then l.drop 2 else l

def takeD (l : List UInt8) : Int × List UInt8 :=
  match scan 0 (body l) with
  | none => (0, [])
  | some (n, r) => if below l = true then (-(n : Int), r) else if n = 9223372036854775808 then (0, []) else ((n : Int), r)

theorem take_num {n : Int} {t : List UInt8} (hn : In n) (ht : t = [] ∨ ∃ t', t = 69 :: t') : takeD (num n ++ t) = (n, t) := by
  have h1 := hn.1; have h2 := hn.2
  unfold takeD
  by_cases h : n < 0
  · have hb : below (num n ++ t) = true := by rw [num_neg h]; rfl
    have hd : body (num n ++ t) = decDigits n.natAbs ++ t := by rw [body, if_pos hb, num_neg h]; rfl
    rw [hd, scan_dd (by omega) ht]
    simp only
    rw [if_pos hb, show -((n.natAbs : Nat) : Int) = n by omega]
  · have hb : below (num n ++ t) = false := by
      rw [num_pos h]
      obtain ⟨c, r, hc, _, hc2⟩ := dd_cons n.natAbs
      rw [hc]
      unfold below
      rw [beq_eq_false_iff_ne]
      intro e
      have : c = 194 := by simpa using congrArg List.head? e
      rw [this] at hc2
      exact absurd hc2 (by decide)
    have hd : body (num n ++ t) = decDigits n.natAbs ++ t := by rw [body, if_neg (by rw [hb]; decide), num_pos h]
    rw [hd, scan_dd (by omega) ht]
    simp only
    rw [if_neg (by rw [hb]; decide), if_neg (by omega), show ((n.natAbs : Nat) : Int) = n by omega]

theorem take_in (l : List UInt8) : In (takeD l).1 ∧ (takeD l).2.length ≤ l.length := by
  have hlen : (body l).length ≤ l.length := by unfold body; split <;> simp
  unfold takeD
  split
  · exact ⟨⟨by decide, by decide⟩, by simp⟩
  · rename_i n r h
    obtain ⟨hk, hr⟩ := scan_le (body l) 0 n r (by omega) h
    split
    · exact ⟨⟨by simp only; omega, by simp only; omega⟩, by simp only; omega⟩
    · split
      · exact ⟨⟨by decide, by decide⟩, by simp⟩
      · exact ⟨⟨by simp only; omega, by simp only; omega⟩, by simp only; omega⟩

end Go.Proofs.YtkebngldmcoaaaaGreatDoor
