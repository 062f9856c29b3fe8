/-
  More plain mathematics of bits in bytes. Nothing is claimed here by itself.
-/
import Derived.Test.YtinkpbablhbccaaMath
namespace Go.Proofs.Ytinkpbablhbccaa

theorem getD_out (l : List Int) (i : Nat) (h : l.length ≤ i) : l.getD i 0 = 0 := by
  simp [List.getElem?_eq_none h]

/-- what is unpacked is packed just so -/
theorem pk_up (bs : List Int) (n : Nat) (hl : bs.length = bytesN n) (hb : behind bs n = false) (hwf : ∀ i, 0 ≤ bs.getD i 0 ∧ bs.getD i 0 ≤ 255) : pk (up bs n) n (bytesN n) = bs := by
  apply List.ext_getElem
  · rw [pk_len, hl]
  · intro j h1 h2
    have hj : j < bytesN n := by rw [pk_len] at h1; exact h1
    have e1 : (pk (up bs n) n (bytesN n))[j] = (pkb (up bs n) n j : Int) := by
      have := pk_get (up bs n) n (bytesN n) j hj
      simpa [h1] using this
    have e2 : bs[j] = bs.getD j 0 := by simp [h2]
    rw [e1, e2]
    have hw := hwf j
    obtain ⟨X, hX⟩ := Int.eq_ofNat_of_zero_le hw.1
    rw [hX]
    congr 1
    have hX255 : X < 2 ^ 8 := by omega
    apply Nat.eq_of_testBit_eq
    intro i
    rw [pkb_bit]
    by_cases hi : i < 8
    · by_cases hin : 8 * j + i < n
      · rw [up_get _ _ _ hin]
        have hq : (8 * j + i) / 8 = j := by omega
        have hr : (8 * j + i) % 8 = i := by omega
        have hk := upb_bit bs (8 * j + i)
        rw [hq, hr, hX, Int.toNat_natCast] at hk
        have hlt := upb_lt bs (8 * j + i)
        cases ht : X.testBit i
        · have : ¬ upb bs (8 * j + i) = 1 := fun x => by rw [hk, ht] at x; cases x
          have h0 : upb bs (8 * j + i) = 0 := by omega
          simp [h0]
        · have h1 : upb bs (8 * j + i) = 1 := hk.2 ht
          simp [h1, hi, hin]
      · have hlast : j = bs.length - 1 := by rw [hl]; unfold bytesN at *; omega
        have hn8 : n % 8 ≠ 0 := by unfold bytesN at hj; omega
        have hir : n % 8 ≤ i := by unfold bytesN at hj; omega
        have hz : bs.getD (bs.length - 1) 0 / 2 ^ (n % 8) = 0 := by
          have := hb
          unfold behind at this
          have hne : (n % 8 != 0) = true := by simpa using hn8
          rw [hne, Bool.true_and] at this
          simpa using this
        rw [← hlast, hX] at hz
        have e : ((2 : Int) ^ (n % 8)) = ((2 ^ (n % 8) : Nat) : Int) := by simp
        rw [e, ← Int.natCast_ediv] at hz
        have hz' : X / 2 ^ (n % 8) = 0 := by omega
        have hlt : X < 2 ^ (n % 8) := by
          rcases Nat.lt_or_ge X (2 ^ (n % 8)) with h | h
          · exact h
          · have hp : 0 < 2 ^ (n % 8) := Nat.two_pow_pos _
            have := Nat.div_pos h hp
            omega
        have hbit : X.testBit i = false := Nat.testBit_lt_two_pow (Nat.lt_of_lt_of_le hlt (Nat.pow_le_pow_right (by decide) hir))
        rw [hbit]
        simp [hin]
    · have hbit : X.testBit i = false := Nat.testBit_lt_two_pow (Nat.lt_of_lt_of_le hX255 (Nat.pow_le_pow_right (by decide) (by omega)))
      rw [hbit]
      simp [hi]

/-- whole bytes may be packed apart -/
theorem pkb_ext (l l' : List Int) (k k' j j' : Nat) (h : ∀ i, i < 8 → (8 * j + i < k ∧ l.getD (8 * j + i) 0 ≠ 0 ↔ 8 * j' + i < k' ∧ l'.getD (8 * j' + i) 0 ≠ 0)) : pkb l k j = pkb l' k' j' := by
  apply Nat.eq_of_testBit_eq
  intro i
  rw [pkb_bit, pkb_bit]
  by_cases hi : i < 8
  · have := h i hi
    rw [Bool.eq_iff_iff]
    simp [hi]
    simpa using this
  · simp [hi]

theorem pk_parts (l : List Int) (k : Nat) (h : 8 * k ≤ l.length) :
    pk l l.length (bytesN l.length) = pk (l.take (8 * k)) (8 * k) k ++ pk (l.drop (8 * k)) (l.length - 8 * k) (bytesN (l.length - 8 * k)) := by
  have hlen : bytesN l.length = k + bytesN (l.length - 8 * k) := by unfold bytesN; omega
  apply List.ext_getElem
  · simp [pk_len, hlen]
  · intro j h1 h2
    have hj : j < bytesN l.length := by rw [pk_len] at h1; exact h1
    have e1 : (pk l l.length (bytesN l.length))[j] = (pkb l l.length j : Int) := by
      have := pk_get l l.length (bytesN l.length) j hj
      simpa [h1] using this
    rw [e1, List.getElem_append]
    by_cases hjk : j < k
    · have hc : j < (pk (l.take (8 * k)) (8 * k) k).length := by rw [pk_len]; exact hjk
      have := pk_get (l.take (8 * k)) (8 * k) k j hjk
      rw [dif_pos hc]
      have e2 : (pk (l.take (8 * k)) (8 * k) k)[j] = (pkb (l.take (8 * k)) (8 * k) j : Int) := by simpa [hc] using this
      rw [e2]
      congr 1
      apply pkb_ext
      intro i hi
      have hi8 : 8 * j + i < 8 * k := by omega
      have hil : 8 * j + i < l.length := by omega
      simp [hi8, hil]
    · have hc : ¬ j < (pk (l.take (8 * k)) (8 * k) k).length := by rw [pk_len]; exact hjk
      rw [dif_neg hc]
      have hj2 : j - k < bytesN (l.length - 8 * k) := by omega
      have := pk_get (l.drop (8 * k)) (l.length - 8 * k) (bytesN (l.length - 8 * k)) (j - k) hj2
      have hc2 : j - k < (pk (l.drop (8 * k)) (l.length - 8 * k) (bytesN (l.length - 8 * k))).length := by rw [pk_len]; exact hj2
      have e2 : (pk (l.drop (8 * k)) (l.length - 8 * k) (bytesN (l.length - 8 * k)))[j - k] = (pkb (l.drop (8 * k)) (l.length - 8 * k) (j - k) : Int) := by simpa [hc2] using this
      have e3 : j - (pk (l.take (8 * k)) (8 * k) k).length = j - k := by rw [pk_len]
      simp only [e3]
      rw [e2]
      congr 1
      apply pkb_ext
      intro i hi
      have ei : 8 * k + (8 * (j - k) + i) = 8 * j + i := by omega
      have hlt : (8 * j + i < l.length) ↔ (8 * (j - k) + i < l.length - 8 * k) := by omega
      rw [List.getD_eq_getElem?_getD, List.getD_eq_getElem?_getD, List.getElem?_drop, ei, hlt]

/-- two rows of as many numbers are packed alike just if the same ones of them are 0 -/
theorem pk_apart (a b : List Int) (hl : a.length = b.length) :
    pk a a.length (bytesN a.length) = pk b b.length (bytesN b.length) ↔ ∀ i, i < a.length → (a.getD i 0 = 0 ↔ b.getD i 0 = 0) := by
  constructor
  · intro h i hi
    have ha := upb_pk a i hi
    have hb := upb_pk b i (by omega)
    rw [h] at ha
    rw [ha] at hb
    by_cases h1 : a.getD i 0 = 0 <;> by_cases h2 : b.getD i 0 = 0
    · exact ⟨fun _ => h2, fun _ => h1⟩
    · rw [if_pos h1, if_neg h2] at hb; cases hb
    · rw [if_neg h1, if_pos h2] at hb; cases hb
    · exact ⟨fun x => absurd x h1, fun x => absurd x h2⟩
  · intro h
    rw [hl]
    unfold pk
    apply List.map_congr_left
    intro j _
    congr 1
    apply pkb_ext
    intro i hi
    by_cases hlt : 8 * j + i < b.length
    · have := h (8 * j + i) (by omega)
      simp only [hlt, true_and]
      exact not_congr this
    · simp [hlt]
end Go.Proofs.Ytinkpbablhbccaa
