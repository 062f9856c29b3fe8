/-
  Signs and their escapes, as plain functions. Nothing is claimed here by itself.
-/
import Derived.Test.YtcdjilipmjjjkaaDoorUtf
namespace Go.Proofs.YtcdjilipmjjjkaaDoor

/-- the table: signs, and what stands for them -/
def tabS : List Nat := [0x2190, 0x2192, 0x2374, 0x2373, 0x2375, 0x237a, 0x2207, 0x2206, 0x2359, 0x2395, 0x235e, 0xaf, 0xd7, 0xf7, 0x2264, 0x2265, 0x2260, 0x2227, 0x2228, 0x220a, 0x2308, 0x230a, 0x2218, 0x25cb, 0x235f, 0x233d, 0x2349, 0x2282, 0x2283, 0x2229, 0x222a, 0x2352, 0x234b, 0x234e, 0x2355, 0x2339, 0x2371, 0x2372, 0x22a5, 0x22a4, 0x22c4, 0x235d, 0xa8]
def tabT : List UInt8 := [108, 114, 112, 105, 119, 97, 103, 116, 84, 113, 81, 45, 120, 47, 60, 62, 61, 94, 118, 101, 117, 100, 111, 79, 42, 102, 121, 99, 67, 110, 85, 71, 72, 88, 70, 68, 86, 65, 98, 66, 59, 35, 58]
theorem tab_len : tabS.length = 43 ∧ tabT.length = 43 := by decide
/-- what stands for a sign of the table -/
def standsF : List Nat → List UInt8 → Nat → Option UInt8
  | s :: ss, t :: ts, c => if s = c then some t else standsF ss ts c
  | _, _, _ => none
/-- the sign of the table for which it stands -/
def meantF : List Nat → List UInt8 → UInt8 → Option Nat
  | s :: ss, t :: ts, x => if t = x then some s else meantF ss ts x
  | _, _, _ => none
def stands (c : Nat) : Option UInt8 := standsF tabS tabT c
def meant (x : UInt8) : Option Nat := meantF tabS tabT x

/-- a digit of base 16 -/
def hexDig (d : Nat) : UInt8 := if d < 10 then UInt8.ofNat (48 + d) else UInt8.ofNat (55 + d)
/-- a number's digits of base 16, with so much breath -/
def hexF : Nat → Nat → List UInt8
  | 0, _ => []
  | k + 1, n => if n < 16 then [hexDig n] else hexF k (n / 16) ++ [hexDig (n % 16)]
def hexD (n : Nat) : List UInt8 := hexF (n + 1) n
/-- a sign's escape -/
def oneD (c : Nat) : List UInt8 :=
  if c = 64 then [64, 64]
  else if 32 ≤ c ∧ c ≤ 126 then [UInt8.ofNat c]
  else match stands c with
    | some t => [64, t]
    | none => 64 :: 123 :: (hexD c ++ [125])
/-- the escapes of signs -/
def escD : List Nat → List UInt8
  | [] => []
  | c :: t => oneD c ++ escD t
/-- P7.1: a text's escape; none: it is not right -/
def escT (l : List UInt8) : Option (List UInt8) := (signsD l).map escD

/-- digits of base 16 and a brace: the number, and where the bytes behind begin -/
def hexIn : Nat → Nat → Nat → List UInt8 → Nat × Nat
  | 0, _, _, _ => (0, 0)
  | _ + 1, _, _, [] => (0, 0)
  | k + 1, n, i, b :: r =>
    if b.toNat = 125 then (n, i + 1)
    else if 48 ≤ b.toNat ∧ b.toNat ≤ 57 then hexIn k (16 * n + (b.toNat - 48)) (i + 1) r
    else if 65 ≤ b.toNat ∧ b.toNat ≤ 70 then hexIn k (16 * n + (b.toNat - 55)) (i + 1) r
    else (0, 0)
/-- the sign of which an escape may stand first, and how many bytes it takes (0: none) -/
def signD : List UInt8 → Nat × Nat
  | [] => (0, 0)
  | [b] => if b.toNat = 64 then (0, 0) else (b.toNat, 1)
  | b :: x :: r =>
    if b.toNat = 64 then
      if x.toNat = 64 then (64, 2)
      else match meant x with
        | some c => (c, 2)
        | none => hexIn 8 0 2 r
    else (b.toNat, 1)

theorem hexF_enough : ∀ (k n : Nat), n < k → hexF k n = hexF (n + 1) n
  | 0, n, h => by omega
  | k + 1, n, h => by
    show (if n < 16 then _ else _) = (if n < 16 then _ else _)
    by_cases hn : n < 16
    · rw [if_pos hn, if_pos hn]
    · rw [if_neg hn, if_neg hn, hexF_enough k (n / 16) (by omega), hexF_enough n (n / 16) (by omega)]
theorem hex_small {n : Nat} (h : n < 16) : hexD n = [hexDig n] := by
  show (if n < 16 then _ else _) = _
  rw [if_pos h]
theorem hex_big {n : Nat} (h : ¬ n < 16) : hexD n = hexD (n / 16) ++ [hexDig (n % 16)] := by
  show (if n < 16 then _ else _) = _
  rw [if_neg h, hexF_enough n (n / 16) (by omega)]
  rfl
theorem hexDig_nat {d : Nat} (h : d < 16) : (hexDig d).toNat = if d < 10 then 48 + d else 55 + d := by
  unfold hexDig
  split
  · exact u8_nat (by omega)
  · exact u8_nat (by omega)
theorem hex_len {k : Nat} : ∀ {n : Nat}, 1 ≤ k → n < 16 ^ k → (hexD n).length ≤ k ∧ 1 ≤ (hexD n).length := by
  induction k with
  | zero => intro n h; omega
  | succ k ih =>
    intro n _ h
    by_cases hn : n < 16
    · rw [hex_small hn]; simp
    · rw [hex_big hn, List.length_append]
      have h16 : n / 16 < 16 ^ k := Nat.div_lt_of_lt_mul (by rw [Nat.pow_succ] at h; omega)
      have hk : 1 ≤ k := by
        rcases Nat.eq_zero_or_pos k with rfl | hk
        · simp at h; omega
        · exact hk
      have := ih hk h16
      simp only [List.length_singleton]
      omega
theorem hexIn_dig {d : Nat} (h : d < 16) (k n i : Nat) (r : List UInt8) : hexIn (k + 1) n i (hexDig d :: r) = hexIn k (16 * n + d) (i + 1) r := by
  have hd := hexDig_nat h
  show (if (hexDig d).toNat = 125 then (n, i + 1)
    else if 48 ≤ (hexDig d).toNat ∧ (hexDig d).toNat ≤ 57 then hexIn k (16 * n + ((hexDig d).toNat - 48)) (i + 1) r
    else if 65 ≤ (hexDig d).toNat ∧ (hexDig d).toNat ≤ 70 then hexIn k (16 * n + ((hexDig d).toNat - 55)) (i + 1) r
    else (0, 0)) = _
  by_cases h9 : d < 10
  · rw [if_pos h9] at hd
    rw [if_neg (by omega), if_pos (by omega), hd, show 48 + d - 48 = d by omega]
  · rw [if_neg h9] at hd
    rw [if_neg (by omega), if_neg (by omega), if_pos (by omega), hd, show 55 + d - 55 = d by omega]
theorem hexIn_hex (c : Nat) : ∀ (k n i : Nat) (r : List UInt8), hexIn ((hexD c).length + k) n i (hexD c ++ r) = hexIn k (16 ^ (hexD c).length * n + c) (i + (hexD c).length) r := by
  induction c using Nat.strongRecOn with
  | _ c ih =>
    intro k n i r
    by_cases hc : c < 16
    · rw [hex_small hc]
      show hexIn (1 + k) n i (hexDig c :: r) = _
      rw [Nat.add_comm 1 k, hexIn_dig hc]
      simp only [List.length_singleton, Nat.pow_one]
    · have hb := hex_big hc
      have hL : (hexD c).length = (hexD (c / 16)).length + 1 := by rw [hb]; simp
      have h := ih (c / 16) (by omega) (k + 1) n i (hexDig (c % 16) :: r)
      rw [hL, hb, List.append_assoc]
      show hexIn ((hexD (c / 16)).length + 1 + k) n i (hexD (c / 16) ++ (hexDig (c % 16) :: r)) = _
      rw [Nat.add_assoc, Nat.add_comm 1 k, h, hexIn_dig (by omega)]
      congr 1
      rw [Nat.pow_succ, Nat.mul_add, ← Nat.mul_assoc, Nat.mul_comm 16 (16 ^ _), Nat.add_assoc]
      congr 1
      omega

theorem stands_tab : ∀ (i : Fin 43), stands (tabS.getD i 0) = some (tabT.getD i 0) ∧ meant (tabT.getD i 0) = some (tabS.getD i 0) := by decide
theorem standsF_mem : ∀ {ss : List Nat} {ts : List UInt8} {c : Nat} {x : UInt8}, standsF ss ts c = some x → ∃ i, i < ss.length ∧ i < ts.length ∧ ss.getD i 0 = c ∧ ts.getD i 0 = x
  | [], _, c, x, h => by simp [standsF] at h
  | _ :: _, [], c, x, h => by simp [standsF] at h
  | s :: ss, t :: ts, c, x, h => by
    unfold standsF at h
    by_cases hs : s = c
    · rw [if_pos hs] at h
      exact ⟨0, by simp, by simp, hs, Option.some.inj h⟩
    · rw [if_neg hs] at h
      obtain ⟨i, h1, h2, h3, h4⟩ := standsF_mem h
      exact ⟨i + 1, by simpa using h1, by simpa using h2, by simpa using h3, by simpa using h4⟩
theorem meant_stands {c : Nat} {x : UInt8} (h : stands c = some x) : meant x = some c := by
  obtain ⟨i, h1, _, h3, h4⟩ := standsF_mem h
  have := (stands_tab ⟨i, by rw [tab_len.1] at h1; exact h1⟩).2
  simp only at this
  rw [h3, h4] at this
  exact this
theorem meant_brace : meant 123 = none := by decide
theorem meant_at : meant 64 = none := by decide

/-- a sign's escape is read as the sign, whatever follows -/
theorem sign_one {c : Nat} (h : isSign c = true) (r : List UInt8) : signD (oneD c ++ r) = (c, (oneD c).length) := by
  have hs := isSign_iff.1 h
  unfold oneD
  by_cases h1 : c = 64
  · rw [if_pos h1, h1]
    rfl
  · rw [if_neg h1]
    by_cases h2 : 32 ≤ c ∧ c ≤ 126
    · rw [if_pos h2]
      have hn : (UInt8.ofNat c).toNat = c := u8_nat (by omega)
      cases r with
      | nil => show (if (UInt8.ofNat c).toNat = 64 then _ else _) = _; rw [if_neg (by omega), hn]; rfl
      | cons x t => show (if (UInt8.ofNat c).toNat = 64 then _ else _) = _; rw [if_neg (by omega), hn]; rfl
    · rw [if_neg h2]
      cases ht : stands c with
      | some t =>
        have hm := meant_stands ht
        have h64 : ¬ t.toNat = 64 := fun e => by
          have : t = 64 := UInt8.toNat_inj.1 e
          rw [this, meant_at] at hm
          cases hm
        simp only [List.cons_append, List.nil_append]
        show (if (64 : UInt8).toNat = 64 then (if t.toNat = 64 then (64, 2) else match meant t with
          | some c => (c, 2)
          | none => hexIn 8 0 2 r) else ((64 : UInt8).toNat, 1)) = _
        rw [if_pos (by decide : (64 : UInt8).toNat = 64), if_neg h64, hm]
        rfl
      | none =>
        simp only [List.cons_append]
        show hexIn 8 0 2 ((hexD c ++ [125]) ++ r) = _
        have hl := hex_len (k := 6) (n := c) (by omega) (by omega)
        have hh := hexIn_hex c (8 - (hexD c).length) 0 2 ([125] ++ r)
        rw [show (hexD c).length + (8 - (hexD c).length) = 8 by omega] at hh
        rw [List.append_assoc, hh, show 8 - (hexD c).length = (7 - (hexD c).length) + 1 by omega]
        show (if (125 : UInt8).toNat = 125 then _ else _) = _
        rw [if_pos (by decide : (125 : UInt8).toNat = 125), Nat.mul_zero, Nat.zero_add]
        simp only [List.length_cons, List.length_append, List.length_nil]
        congr 1
        omega
theorem one_pos (c : Nat) : 1 ≤ (oneD c).length := by
  unfold oneD
  split
  · simp
  · split
    · simp
    · split <;> simp
theorem one_le {c : Nat} (h : isSign c = true) : (oneD c).length ≤ 9 * (bytesD c).length := by
  have hs := isSign_iff.1 h
  have hb := bytes_pos h
  unfold oneD
  split
  · simp; omega
  · split
    · simp; omega
    · split
      · simp; omega
      · have := hex_len (k := 6) (n := c) (by omega) (by omega)
        simp only [List.length_cons, List.length_append, List.length_nil]
        omega
/-- a plain sign -/
def plainB (b : UInt8) : Bool := decide (32 ≤ b.toNat ∧ b.toNat ≤ 126)
theorem plain_iff {b : UInt8} : plainB b = true ↔ 32 ≤ b.toNat ∧ b.toNat ≤ 126 := by simp only [plainB, decide_eq_true_eq]
theorem tab_plain : ∀ i : Fin 43, plainB (tabT.getD i 0) = true := by decide
theorem hexDig_plain {d : Nat} (h : d < 16) : plainB (hexDig d) = true := by
  rw [plain_iff, hexDig_nat h]
  split <;> omega
theorem hex_plain (c : Nat) : ∀ b ∈ hexD c, plainB b = true := by
  induction c using Nat.strongRecOn with
  | _ c ih =>
    by_cases hc : c < 16
    · rw [hex_small hc]
      intro b hb
      rw [List.mem_singleton.1 hb]
      exact hexDig_plain hc
    · rw [hex_big hc]
      intro b hb
      rcases List.mem_append.1 hb with hb | hb
      · exact ih (c / 16) (by omega) b hb
      · rw [List.mem_singleton.1 hb]
        exact hexDig_plain (by omega)
theorem one_plain {c : Nat} (h : isSign c = true) : ∀ b ∈ oneD c, plainB b = true := by
  have hs := isSign_iff.1 h
  intro b hb
  unfold oneD at hb
  split at hb
  · rcases List.mem_cons.1 hb with rfl | hb
    · decide
    · rw [List.mem_singleton.1 hb]; decide
  · split at hb
    · rename_i h2
      rw [List.mem_singleton.1 hb, plain_iff, u8_nat (by omega)]
      exact h2
    · split at hb
      · rename_i t ht
        obtain ⟨i, h1, _, _, h4⟩ := standsF_mem ht
        rcases List.mem_cons.1 hb with rfl | hb
        · decide
        · rw [List.mem_singleton.1 hb, ← h4]
          exact tab_plain ⟨i, by rw [tab_len.1] at h1; exact h1⟩
      · rcases List.mem_cons.1 hb with rfl | hb
        · decide
        · rcases List.mem_cons.1 hb with rfl | hb
          · decide
          · rcases List.mem_append.1 hb with hb | hb
            · exact hex_plain c b hb
            · rw [List.mem_singleton.1 hb]; decide
end Go.Proofs.YtcdjilipmjjjkaaDoor
