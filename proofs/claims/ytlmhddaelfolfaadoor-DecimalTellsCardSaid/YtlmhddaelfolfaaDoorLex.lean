/-
  Decimals in the order of texts, and in the order of numbers. Nothing is claimed here by itself.
-/
import Derived.Test.YtlmhddaelfolfaaDoorWorth
import GoSem.Op.String
namespace Go.Proofs.YtlmhddaelfolfaaDoor
open Go.Lib

/-- what decimals are worth, k places wide -/
def V : Nat → List UInt8 → Nat
  | _, [] => 0
  | 0, _ => 0
  | k + 1, c :: r => (c.toNat - 48) * 10 ^ k + V k r

def Dg (l : List UInt8) : Prop := ∀ c ∈ l, 48 ≤ c.toNat ∧ c.toNat ≤ 57
/-- the last is not 0 -/
def Nz (l : List UInt8) : Prop := ∀ c, l.getLast? = some c → c ≠ 48

theorem V_lt : ∀ (k : Nat) (l : List UInt8), Dg l → V k l < 10 ^ k
  | k, [], _ => by rw [V]; exact Nat.pow_pos (by decide)
  | 0, c :: r, _ => by show 0 < 10 ^ 0; decide
  | k + 1, c :: r, h => by
    have h1 := V_lt k r (fun d hd => h d (by simp [hd]))
    have h2 := h c (by simp)
    have h3 : (c.toNat - 48) * 10 ^ k ≤ 9 * 10 ^ k := Nat.mul_le_mul_right _ (by omega)
    rw [V, Nat.pow_succ]
    omega

theorem Nz.tail {c : UInt8} {r : List UInt8} (h : Nz (c :: r)) : Nz r := by
  intro d hd
  cases r with
  | nil => simp at hd
  | cons x r => exact h d (by rw [List.getLast?_cons_cons]; exact hd)

theorem V_pos : ∀ (k : Nat) (l : List UInt8), l ≠ [] → l.length ≤ k → Dg l → Nz l → 0 < V k l
  | k, [], h, _, _, _ => absurd rfl h
  | 0, c :: r, _, h, _, _ => by simp at h
  | k + 1, c :: r, _, hl, hd, hz => by
    rw [V]
    cases r with
    | nil =>
      have h1 := hz c (by simp)
      have h2 := hd c (by simp)
      have h3 : c.toNat ≠ 48 := fun e => h1 (UInt8.toNat_inj.1 (by rw [e]; rfl))
      have : 0 < (c.toNat - 48) * 10 ^ k := Nat.mul_pos (by omega) (Nat.pow_pos (by decide))
      omega
    | cons x r =>
      have := V_pos k (x :: r) (by simp) (by simpa using hl) (fun d h => hd d (by simp [h])) hz.tail
      omega

theorem lex : ∀ (k : Nat) (x y : List UInt8), x.length ≤ k → y.length ≤ k → Dg x → Dg y → Nz x → Nz y →
    (Op.bytesLess x y = true ↔ V k x < V k y) ∧ (x = y ↔ V k x = V k y)
  | k, [], [], _, _, _, _, _, _ => by simp [Op.bytesLess, V]
  | k, [], b :: y, _, hy, _, dy, _, zy => by
    have := V_pos k (b :: y) (by simp) hy dy zy
    simp [Op.bytesLess, V]
    omega
  | k, a :: x, [], hx, _, dx, _, zx, _ => by
    have := V_pos k (a :: x) (by simp) hx dx zx
    simp [Op.bytesLess, V]
    omega
  | 0, a :: x, b :: y, hx, _, _, _, _, _ => by simp at hx
  | k + 1, a :: x, b :: y, hx, hy, dx, dy, zx, zy => by
    obtain ⟨ih1, ih2⟩ := lex k x y (by simpa using hx) (by simpa using hy) (fun d h => dx d (by simp [h])) (fun d h => dy d (by simp [h])) zx.tail zy.tail
    have v1 := V_lt k x (fun d h => dx d (by simp [h]))
    have v2 := V_lt k y (fun d h => dy d (by simp [h]))
    have a1 := dx a (by simp)
    have b1 := dy b (by simp)
    rw [Op.bytesLess, V, V]
    rcases Nat.lt_trichotomy a.toNat b.toNat with h | h | h
    · have hp : (a.toNat - 48 + 1) * 10 ^ k ≤ (b.toNat - 48) * 10 ^ k := Nat.mul_le_mul_right _ (by omega)
      rw [Nat.add_mul] at hp
      have hlt : a < b := UInt8.lt_iff_toNat_lt.2 h
      have hne : a ≠ b := fun e => by rw [e] at h; omega
      constructor
      · simp [hlt]; omega
      · simp [hne]; omega
    · have he : a = b := UInt8.toNat_inj.1 h
      subst he
      constructor
      · simp; rw [ih1]
      · simp; rw [ih2]
    · have hp : (b.toNat - 48 + 1) * 10 ^ k ≤ (a.toNat - 48) * 10 ^ k := Nat.mul_le_mul_right _ (by omega)
      rw [Nat.add_mul] at hp
      have hlt : ¬ a < b := fun e => by have := UInt8.lt_iff_toNat_lt.1 e; omega
      have hne : a ≠ b := fun e => by rw [e] at h; omega
      constructor
      · simp [hlt, hne]; omega
      · simp [hne]; omega

theorem V_snoc : ∀ (k : Nat) (l : List UInt8) (c : UInt8), l.length < k → V k (l ++ [c]) = V k l + (c.toNat - 48) * 10 ^ (k - l.length - 1)
  | 0, _, _, h => absurd h (by omega)
  | k + 1, [], c, _ => by simp [V]
  | k + 1, d :: l, c, h => by
    rw [List.cons_append, V, V, V_snoc k l c (by simpa using h), List.length_cons, show k + 1 - (l.length + 1) - 1 = k - l.length - 1 by omega]
    omega

theorem V_dd (k u : Nat) (h : nDigits u ≤ k) : V k (decDigits u) = u * 10 ^ (k - nDigits u) := by
  induction u using Nat.strongRecOn with
  | _ u ih =>
    by_cases hu : u < 10
    · rw [nDigits_small hu] at h ⊢
      rw [dd_small hu]
      cases k with
      | zero => omega
      | succ k => rw [V, V, dig_nat hu, show 48 + u - 48 = u by omega, Nat.add_sub_cancel, Nat.add_zero]
    · rw [nDigits_big hu] at h ⊢
      rw [dd_big hu, V_snoc k _ _ (by rw [decDigits_length]; omega), ih (u / 10) (by omega) (by omega), decDigits_length, dig_nat (by omega)]
      have e : 10 ^ (k - nDigits (u / 10)) = 10 * 10 ^ (k - (nDigits (u / 10) + 1)) := by
        rw [← Nat.pow_succ']
        congr 1
        omega
      rw [e, show k - nDigits (u / 10) - 1 = k - (nDigits (u / 10) + 1) by omega, ← Nat.mul_assoc, ← Nat.add_mul]
      congr 1
      omega

theorem dd_nz {u : Nat} (h : u % 10 ≠ 0) : Nz (decDigits u) := by
  intro c hc e
  subst e
  by_cases hu : u < 10
  · rw [dd_small hu, List.getLast?_singleton] at hc
    have h2 : UInt8.ofNat (48 + u) = 48 := by injection hc
    have := congrArg UInt8.toNat h2
    rw [dig_nat hu] at this
    simp at this
    omega
  · rw [dd_big hu, List.getLast?_concat] at hc
    have h2 : UInt8.ofNat (48 + u % 10) = 48 := by injection hc
    have := congrArg UInt8.toNat h2
    rw [dig_nat (by omega)] at this
    simp at this
    omega

theorem lex_dd {u v : Nat} (hu : u % 10 ≠ 0) (hv : v % 10 ≠ 0) (h1 : nDigits u ≤ 19) (h2 : nDigits v ≤ 19) :
    (!(Op.bytesLess (decDigits u) (decDigits v) || decDigits u == decDigits v)) = decide (fullS v < fullS u) := by
  obtain ⟨a, b⟩ := lex 19 (decDigits u) (decDigits v) (by rw [decDigits_length]; exact h1) (by rw [decDigits_length]; exact h2) (dd_bytes u) (dd_bytes v) (dd_nz hu) (dd_nz hv)
  rw [V_dd 19 u h1, V_dd 19 v h2] at a b
  change (_ ↔ fullS u < fullS v) at a
  change (_ ↔ fullS u = fullS v) at b
  rcases Nat.lt_trichotomy (fullS u) (fullS v) with h | h | h
  · rw [a.2 h]
    simp
    omega
  · have : decDigits u = decDigits v := b.2 h
    rw [this]
    simp
    omega
  · have n1 : Op.bytesLess (decDigits u) (decDigits v) = false := by
      cases hb : Op.bytesLess (decDigits u) (decDigits v) with
      | false => rfl
      | true => have := a.1 hb; omega
    have n2 : (decDigits u == decDigits v) = false := by
      rw [beq_eq_false_iff_ne]
      intro e
      have := b.1 e
      omega
    rw [n1, n2]
    simp
    exact h

end Go.Proofs.YtlmhddaelfolfaaDoor
