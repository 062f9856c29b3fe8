/-
  Decimals and texts of numbers, plainly. Nothing is claimed here by itself.
-/
import Derived.Lib.ItoaNum
import Derived.Lib.AtoiAll
import Derived.Test.YtkebngldmcoaaaaGreatDoorDec
namespace Go.Proofs.YtkebngldmcoaaaaGreatDoor
open Go.Lib

theorem dd_small {u : Nat} (h : u < 10) : decDigits u = [UInt8.ofNat (48 + u)] := by rw [decDigits, dif_pos h]
theorem dd_big {u : Nat} (h : ¬ u < 10) : decDigits u = decDigits (u / 10) ++ [UInt8.ofNat (48 + u % 10)] := by rw [decDigits, dif_neg h]

theorem dig_nat {d : Nat} (h : d < 10) : (UInt8.ofNat (48 + d)).toNat = 48 + d := by
  rw [UInt8.toNat_ofNat']
  omega

theorem dd_bytes (u : Nat) : ∀ c ∈ decDigits u, 48 ≤ c.toNat ∧ c.toNat ≤ 57 := by
  induction u using Nat.strongRecOn with
  | _ u ih =>
    by_cases h : u < 10
    · rw [dd_small h]
      intro c hc
      rw [List.mem_singleton] at hc
      subst hc
      rw [dig_nat h]
      omega
    · rw [dd_big h]
      intro c hc
      rcases List.mem_append.1 hc with hc | hc
      · exact ih (u / 10) (by omega) c hc
      · rw [List.mem_singleton] at hc
        subst hc
        rw [dig_nat (by omega)]
        omega

theorem dd_ne (u : Nat) : decDigits u ≠ [] := by
  intro h
  have := congrArg List.length h
  rw [decDigits_length] at this
  have := nDigits_pos u
  simp at *
  omega

/-- what a row of decimals is worth -/
def val (l : List UInt8) : Nat := l.foldl (fun a c => a * 10 + (c.toNat - 48)) 0

theorem val_snoc (l : List UInt8) (c : UInt8) : val (l ++ [c]) = val l * 10 + (c.toNat - 48) := by simp [val]

theorem val_dd (u : Nat) : val (decDigits u) = u := by
  induction u using Nat.strongRecOn with
  | _ u ih =>
    by_cases h : u < 10
    · rw [dd_small h]
      simp [val]
      omega
    · rw [dd_big h, val_snoc, ih (u / 10) (by omega), dig_nat (by omega)]
      omega

theorem dd_inj {u v : Nat} (h : decDigits u = decDigits v) : u = v := by rw [← val_dd u, ← val_dd v, h]

theorem parse_append : ∀ (l r : List UInt8) (acc a : Nat), parseUint10 acc l = .ok a → parseUint10 acc (l ++ r) = parseUint10 a r
  | [], r, acc, a, h => by
    rw [parseUint10] at h
    injection h with h
    subst h
    rfl
  | c :: l, r, acc, a, h => by
    rw [List.cons_append, parseUint10]
    rw [parseUint10] at h
    split at h
    · rename_i h1
      rw [if_pos h1]
      split at h
      · cases h
      · rename_i h2
        rw [if_neg h2]
        split at h
        · cases h
        · rename_i h3
          rw [if_neg h3]
          exact parse_append l r _ a h
    · cases h

theorem parse_dd (u : Nat) (hu : u < 18446744073709551616) : parseUint10 0 (decDigits u) = .ok u := by
  induction u using Nat.strongRecOn with
  | _ u ih =>
    by_cases h : u < 10
    · rw [dd_small h, parseUint10, dig_nat h, if_pos (by omega), if_neg (by omega), if_neg (by omega), parseUint10]
      congr 1
      omega
    · rw [dd_big h, parse_append _ _ _ _ (ih (u / 10) (by omega) (by omega)), parseUint10, dig_nat (by omega), if_pos (by omega), if_neg (by omega), if_neg (by omega), parseUint10]
      congr 1
      omega

theorem mag_dd (u : Nat) (hu : u < 18446744073709551616) : parseMag (decDigits u) = .ok u := by
  rw [parseMag, if_neg (dd_ne u), parse_dd u hu]

theorem dd_cons (u : Nat) : ∃ c r, decDigits u = c :: r ∧ 48 ≤ c.toNat ∧ c.toNat ≤ 57 := by
  cases h : decDigits u with
  | nil => exact absurd h (dd_ne u)
  | cons c r => exact ⟨c, r, rfl, dd_bytes u c (by rw [h]; simp)⟩

theorem atoi_dd (u : Nat) (hu : u < 9223372036854775808) : atoiAll (decDigits u) = .ok (u : Int) := by
  obtain ⟨c, r, h, h1, h2⟩ := dd_cons u
  have hm := mag_dd u (by omega)
  rw [h] at hm ⊢
  simp only [atoiAll]
  rw [if_neg (show ¬ (c.toNat = 43 ∨ c.toNat = 45) by omega), hm]
  simp only
  rw [if_neg (by omega), if_neg (by omega), if_neg (by omega)]

theorem atoi_neg (u : Nat) (hu : u ≤ 9223372036854775808) : atoiAll (45 :: decDigits u) = .ok (-(u : Int)) := by
  have hm := mag_dd u (by omega)
  have h45 : (45 : UInt8).toNat = 45 := rfl
  simp only [atoiAll]
  rw [if_pos (show (45 : UInt8).toNat = 43 ∨ (45 : UInt8).toNat = 45 by omega), hm]
  simp only
  rw [if_neg (by omega), if_neg (by omega), if_pos h45]

/-- a number's decimals, the sign ahead of what is below 0 -/
def num (n : Int) : List UInt8 := if n < 0 then 194 :: 175 :: decDigits n.natAbs else decDigits n.natAbs

theorem num_neg {n : Int} (h : n < 0) : num n = 194 :: 175 :: decDigits n.natAbs := by rw [num, if_pos h]
theorem num_pos {n : Int} (h : ¬ n < 0) : num n = decDigits n.natAbs := by rw [num, if_neg h]

theorem num_inj {m n : Int} (h : num m = num n) : m = n := by
  by_cases hm : m < 0
  · by_cases hn : n < 0
    · rw [num_neg hm, num_neg hn] at h
      simp only [List.cons.injEq, true_and] at h
      have := dd_inj h
      omega
    · rw [num_neg hm, num_pos hn] at h
      obtain ⟨c, r, hc, h1, h2⟩ := dd_cons n.natAbs
      rw [hc] at h
      simp only [List.cons.injEq] at h
      rw [← h.1] at h2
      exact absurd h2 (by decide)
  · by_cases hn : n < 0
    · rw [num_pos hm, num_neg hn] at h
      obtain ⟨c, r, hc, h1, h2⟩ := dd_cons m.natAbs
      rw [hc] at h
      simp only [List.cons.injEq] at h
      rw [h.1] at h2
      exact absurd h2 (by decide)
    · rw [num_pos hm, num_pos hn] at h
      have := dd_inj h
      omega

theorem num_ne (n : Int) : num n ≠ [] := by
  unfold num
  split
  · simp
  · exact dd_ne _

theorem num_noE (n : Int) : ∀ c ∈ num n, c ≠ 69 := by
  intro c hc he
  subst he
  unfold num at hc
  split at hc
  · rcases List.mem_cons.1 hc with h | hc
    · exact absurd h (by decide)
    · rcases List.mem_cons.1 hc with h | hc
      · exact absurd h (by decide)
      · have := dd_bytes _ _ hc
        exact absurd this.2 (by decide)
  · have := dd_bytes _ _ hc
    exact absurd this.2 (by decide)

theorem dd_len {u k : Nat} (hk : 1 ≤ k) (h : u < 10 ^ k) : (decDigits u).length ≤ k := by
  rw [decDigits_length]
  induction k generalizing u with
  | zero => omega
  | succ k ih =>
    by_cases hu : u < 10
    · rw [nDigits_small hu]; omega
    · rw [nDigits_big hu]
      by_cases hk0 : k = 0
      · subst hk0; simp at h; omega
      · have := ih (u := u / 10) (by omega) (by rw [Nat.pow_succ] at h; omega)
        omega

theorem num_len {n : Int} (h : In n) : (num n).length ≤ 21 := by
  have h1 := h.1; have h2 := h.2
  have hp : (10 : Nat) ^ 19 = 10000000000000000000 := by decide
  have := dd_len (u := n.natAbs) (k := 19) (by omega) (by omega)
  unfold num
  split
  · simp only [List.length_cons]; omega
  · omega

theorem num_len_exp {n : Int} (h1 : -32768 ≤ n) (h2 : n ≤ 32767) : (num n).length ≤ 7 := by
  have hp : (10 : Nat) ^ 5 = 100000 := by decide
  have := dd_len (u := n.natAbs) (k := 5) (by omega) (by omega)
  unfold num
  split
  · simp only [List.length_cons]; omega
  · omega

/-- the text of a right number, an empty one of another -/
def text (m e : Int) : List UInt8 := if rightB m e = true then (if e = 0 then num m else num m ++ 69 :: num e) else []

theorem text_wrong {m e : Int} (h : rightB m e = false) : text m e = [] := by rw [text, h]; rfl
theorem text_plain {m : Int} (h : rightB m 0 = true) : text m 0 = num m := by rw [text, if_pos h, if_pos rfl]
theorem text_exp {m e : Int} (h : rightB m e = true) (he : e ≠ 0) : text m e = num m ++ 69 :: num e := by rw [text, if_pos h, if_neg he]

theorem text_ne {m e : Int} (h : rightB m e = true) : text m e ≠ [] := by
  by_cases he : e = 0
  · subst he; rw [text_plain h]; exact num_ne m
  · rw [text_exp h he]
    simp

/-- cut at the first sign -/
theorem cut_inj {a b x y : List UInt8} (ha : ∀ c ∈ a, c ≠ 69) (hb : ∀ c ∈ b, c ≠ 69) (h : a ++ 69 :: x = b ++ 69 :: y) : a = b ∧ x = y := by
  induction a generalizing b with
  | nil =>
    cases b with
    | nil => simpa using h
    | cons c b =>
      simp at h
      exact absurd h.1.symm (hb c (by simp))
  | cons d a ih =>
    cases b with
    | nil =>
      simp at h
      exact absurd h.1 (ha d (by simp))
    | cons c b =>
      simp at h
      obtain ⟨h1, h2⟩ := ih (fun c hc => ha c (by simp [hc])) (fun c hc => hb c (by simp [hc])) h.2
      exact ⟨by rw [h.1, h1], h2⟩

theorem text_inj {m e m' e' : Int} (h : rightB m e = true) (h' : rightB m' e' = true) (ht : text m e = text m' e') : m = m' ∧ e = e' := by
  by_cases he : e = 0
  · subst he
    rw [text_plain h] at ht
    by_cases he' : e' = 0
    · subst he'
      rw [text_plain h'] at ht
      exact ⟨num_inj ht, rfl⟩
    · rw [text_exp h' he'] at ht
      exact absurd rfl (num_noE m 69 (by rw [ht]; simp))
  · rw [text_exp h he] at ht
    by_cases he' : e' = 0
    · subst he'
      rw [text_plain h'] at ht
      exact absurd rfl (num_noE m' 69 (by rw [← ht]; simp))
    · rw [text_exp h' he'] at ht
      obtain ⟨h1, h2⟩ := cut_inj (num_noE m) (num_noE m') ht
      exact ⟨num_inj h1, num_inj h2⟩

theorem text_len {m e : Int} (hm : In m) : (text m e).length ≤ 29 := by
  by_cases hr : rightB m e = true
  · have hR := (rightB_iff hm).1 hr
    have he : -32768 ≤ e ∧ e ≤ 32767 := by rcases hR with ⟨_, h⟩ | h <;> omega
    have h1 := num_len hm
    have h2 := num_len_exp he.1 he.2
    by_cases h0 : e = 0
    · subst h0; rw [text_plain hr]; omega
    · rw [text_exp hr h0]
      simp only [List.length_append, List.length_cons]
      omega
  · rw [text_wrong (by simpa using hr)]; simp

end Go.Proofs.YtkebngldmcoaaaaGreatDoor
