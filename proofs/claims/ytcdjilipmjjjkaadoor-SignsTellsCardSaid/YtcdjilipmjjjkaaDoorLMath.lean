/-
  What follows for the laws, as plain functions. Nothing is claimed here by itself.
-/
import Derived.Test.YtcdjilipmjjjkaaDoorUnesc
namespace Go.Proofs.YtcdjilipmjjjkaaDoor
set_option maxRecDepth 10000

theorem escT_some {l t : List UInt8} (h : escT l = some t) : ∃ cs : List Nat, signsD l = some cs ∧ (∀ c ∈ cs, isSign c = true) ∧ textD cs = l ∧ escD cs = t := by
  unfold escT at h
  cases hs : signsD l with
  | none => rw [hs] at h; cases h
  | some cs =>
    rw [hs] at h
    obtain ⟨h1, h2⟩ := signs_inv hs
    exact ⟨cs, rfl, h1, h2, Option.some.inj h⟩
theorem escT_none {l : List UInt8} (h : escT l = none) : signsD l = none := by
  unfold escT at h
  cases hs : signsD l with
  | none => rfl
  | some cs => rw [hs] at h; cases h
theorem escT_of {cs : List Nat} (h : ∀ c ∈ cs, isSign c = true) : escT (textD cs) = some (escD cs) := by
  unfold escT
  rw [signs_of h]
  rfl
theorem esc_back {l t : List UInt8} (h : escT l = some t) : unD t = some l ∧ (signsD l).isSome = true ∧ t.length ≤ 9 * l.length ∧ ∀ b ∈ t, plainB b = true := by
  obtain ⟨cs, hs, h1, rfl, rfl⟩ := escT_some h
  exact ⟨un_esc h1, by rw [hs]; rfl, esc_le h1, esc_plain h1⟩
theorem un_once {t s : List UInt8} (h : unD t = some s) : (signsD s).isSome = true ∧ escT s = some t := by
  obtain ⟨cs, h1, rfl, rfl⟩ := un_inv h
  exact ⟨by rw [signs_of h1]; rfl, escT_of h1⟩
theorem esc_parts {a b c e : List UInt8} (ha : escT a = some c) (hb : escT b = some e) : escT (a ++ b) = some (c ++ e) ∧ unD (c ++ e) = some (a ++ b) := by
  obtain ⟨xs, _, h1, rfl, rfl⟩ := escT_some ha
  obtain ⟨ys, _, h2, rfl, rfl⟩ := escT_some hb
  have h3 : ∀ c ∈ xs ++ ys, isSign c = true := fun c hc => (List.mem_append.1 hc).elim (h1 c) (h2 c)
  rw [← text_append, ← esc_append]
  exact ⟨escT_of h3, un_esc h3⟩
theorem esc_parts_no {a b c : List UInt8} (ha : escT a = some c) (hb : escT b = none) : escT (a ++ b) = none := by
  obtain ⟨xs, hs, _⟩ := escT_some ha
  have hn := escT_none hb
  unfold escT
  rw [signs_append hs, hn]
  rfl
theorem byte_sign {b : UInt8} (h : b.toNat < 128) : isSign b.toNat = true ∧ bytesD b.toNat = [b] := by
  have hs : isSign b.toNat = true := isSign_iff.2 ⟨by omega, by omega⟩
  refine ⟨hs, ?_⟩
  unfold bytesD
  rw [if_pos hs, if_pos h, UInt8.ofNat_toNat]
theorem plain_text : ∀ {l : List UInt8}, (∀ b ∈ l, plainB b = true) → textD (l.map (·.toNat)) = l
  | [], _ => rfl
  | b :: r, h => by
    have hb := plain_iff.1 (h b (by simp))
    show bytesD b.toNat ++ textD (r.map (·.toNat)) = _
    rw [(byte_sign (by omega)).2, plain_text (fun c hc => h c (by simp [hc]))]
    rfl
theorem plain_esc : ∀ {l : List UInt8}, (∀ b ∈ l, plainB b = true ∧ b.toNat ≠ 64) → escD (l.map (·.toNat)) = l
  | [], _ => rfl
  | b :: r, h => by
    have hb := h b (by simp)
    show oneD b.toNat ++ escD (r.map (·.toNat)) = _
    rw [oneD_plain hb.2 (plain_iff.1 hb.1), UInt8.ofNat_toNat, plain_esc (fun c hc => h c (by simp [hc]))]
    rfl
theorem plain_self {l : List UInt8} (h : ∀ b ∈ l, plainB b = true ∧ b.toNat ≠ 64) : escT l = some l ∧ unD l = some l := by
  have hs : ∀ c ∈ l.map (·.toNat), isSign c = true := by
    intro c hc
    obtain ⟨b, hb, rfl⟩ := List.mem_map.1 hc
    have := plain_iff.1 (h b hb).1
    exact (byte_sign (by omega)).1
  have h1 := escT_of hs
  have h2 := un_esc hs
  rw [plain_text (fun b hb => (h b hb).1), plain_esc h] at h1
  rw [plain_text (fun b hb => (h b hb).1), plain_esc h] at h2
  exact ⟨h1, h2⟩

/-- the document's own way of unescaping: sign by sign -/
def refF : Nat → List UInt8 → Option (List UInt8)
  | _, [] => some []
  | 0, _ :: _ => none
  | k + 1, b :: r => if (signD (b :: r)).2 = 0 then none else (refF k ((b :: r).drop (signD (b :: r)).2)).map (bytesD (signD (b :: r)).1 ++ ·)
def refD (l : List UInt8) : Option (List UInt8) := refF l.length l
theorem refF_enough : ∀ (k : Nat) (l : List UInt8), l.length ≤ k → refF k l = refF l.length l
  | k, [], _ => by cases k <;> rfl
  | 0, b :: r, h => by simp at h
  | k + 1, b :: r, h => by
    have hk : r.length ≤ k := by simpa using h
    show refF (k + 1) (b :: r) = refF (r.length + 1) (b :: r)
    unfold refF
    by_cases hn : (signD (b :: r)).2 = 0
    · rw [if_pos hn, if_pos hn]
    · rw [if_neg hn, if_neg hn]
      have hd : ((b :: r).drop (signD (b :: r)).2).length ≤ r.length := by rw [List.length_drop, List.length_cons]; omega
      rw [refF_enough k _ (by omega), refF_enough r.length _ hd]
theorem refD_nil : refD [] = some [] := rfl
theorem refD_step {l : List UInt8} (hl : l ≠ []) : refD l = if (signD l).2 = 0 then none else (refD (l.drop (signD l).2)).map (bytesD (signD l).1 ++ ·) := by
  cases l with
  | nil => exact absurd rfl hl
  | cons b r =>
    show refF (r.length + 1) (b :: r) = _
    rw [refF]
    by_cases hn : (signD (b :: r)).2 = 0
    · rw [if_pos hn, if_pos hn]
    · rw [if_neg hn, if_neg hn]
      have hd : ((b :: r).drop (signD (b :: r)).2).length ≤ r.length := by rw [List.length_drop, List.length_cons]; omega
      rw [refF_enough r.length _ hd]
      rfl
theorem ref_esc : ∀ {cs : List Nat}, (∀ c ∈ cs, isSign c = true) → refD (escD cs) = some (textD cs)
  | [], _ => rfl
  | c :: t, h => by
    have hc := h c (by simp)
    have hp := one_pos c
    have hne : oneD c ++ escD t ≠ [] := fun e => by
      have := congrArg List.length e
      rw [List.length_append, List.length_nil] at this
      omega
    show refD (oneD c ++ escD t) = _
    rw [refD_step hne, sign_one hc]
    simp only
    rw [if_neg (by omega), List.drop_left, ref_esc (fun d hd => h d (by simp [hd]))]
    rfl
/-- what the document's own way comes to -/
theorem un_ref (t : List UInt8) : unD t = match refD t with
    | none => none
    | some s => if escT s = some t then some s else none := by
  cases hu : unD t with
  | some u =>
    obtain ⟨cs, h1, rfl, rfl⟩ := un_inv hu
    rw [ref_esc h1]
    simp only
    rw [if_pos (escT_of h1)]
  | none =>
    cases hr : refD t with
    | none => rfl
    | some s =>
      simp only
      by_cases he : escT s = some t
      · rw [(esc_back he).1] at hu
        cases hu
      · rw [if_neg he]
theorem hexIn_le : ∀ (k n i : Nat) (r : List UInt8), (hexIn k n i r).2 ≤ i + r.length
  | 0, n, i, r => Nat.zero_le _
  | k + 1, n, i, [] => Nat.zero_le _
  | k + 1, n, i, b :: r => by
    have h := fun n' => hexIn_le k n' (i + 1) r
    show (if b.toNat = 125 then (n, i + 1) else if 48 ≤ b.toNat ∧ b.toNat ≤ 57 then hexIn k (16 * n + (b.toNat - 48)) (i + 1) r else if 65 ≤ b.toNat ∧ b.toNat ≤ 70 then hexIn k (16 * n + (b.toNat - 55)) (i + 1) r else (0, 0)).2 ≤ _
    rw [List.length_cons]
    split
    · simp only; omega
    · split
      · have := h (16 * n + (b.toNat - 48)); omega
      · split
        · have := h (16 * n + (b.toNat - 55)); omega
        · exact Nat.zero_le _
theorem hexIn_lt : ∀ (k n i : Nat) (r : List UInt8), (hexIn k n i r).1 < 16 ^ k * (n + 1)
  | 0, n, i, r => by simp [hexIn]
  | k + 1, n, i, [] => by simp only [hexIn]; exact Nat.mul_pos (Nat.pow_pos (by omega)) (by omega)
  | k + 1, n, i, b :: r => by
    have h := fun n' => hexIn_lt k n' (i + 1) r
    have hp : 1 ≤ 16 ^ k := Nat.pow_pos (by omega)
    have hq : ∀ d, d ≤ 15 → 16 ^ k * (16 * n + d + 1) ≤ 16 ^ (k + 1) * (n + 1) := fun d hd => by
      rw [Nat.pow_succ, Nat.mul_assoc]
      exact Nat.mul_le_mul_left _ (by omega)
    show (if b.toNat = 125 then (n, i + 1) else if 48 ≤ b.toNat ∧ b.toNat ≤ 57 then hexIn k (16 * n + (b.toNat - 48)) (i + 1) r else if 65 ≤ b.toNat ∧ b.toNat ≤ 70 then hexIn k (16 * n + (b.toNat - 55)) (i + 1) r else (0, 0)).1 < _
    split
    · simp only
      have : 1 * (n + 1) ≤ 16 ^ (k + 1) * (n + 1) := Nat.mul_le_mul_right _ (Nat.pow_pos (by omega))
      omega
    · split
      · exact Nat.lt_of_lt_of_le (h _) (hq _ (by omega))
      · split
        · exact Nat.lt_of_lt_of_le (h _) (hq _ (by omega))
        · exact Nat.mul_pos (Nat.pow_pos (by omega)) (by omega)
theorem sign_le (l : List UInt8) : (signD l).2 ≤ l.length := by
  rcases l with _ | ⟨b, _ | ⟨x, r⟩⟩
  · exact Nat.zero_le _
  · show (if b.toNat = 64 then (0, 0) else (b.toNat, 1)).2 ≤ 1
    split <;> simp
  · show (if b.toNat = 64 then (if x.toNat = 64 then (64, 2) else match meant x with
      | some c => (c, 2)
      | none => hexIn 8 0 2 r) else (b.toNat, 1)).2 ≤ _
    rw [List.length_cons, List.length_cons]
    split
    · split
      · simp
      · split
        · simp
        · have := hexIn_le 8 0 2 r; omega
    · simp
end Go.Proofs.YtcdjilipmjjjkaaDoor
