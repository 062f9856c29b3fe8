/-
  Rows of numbers as texts, plainly: pieces, one number, rows. Nothing is claimed here by itself.
-/
import Derived.Test.YtkebngldmcoaaaaGreatDoorParses
import Derived.Test.YtkebngldmcoaaaaGreatDoorWholes
import Derived.Lib.Join
import Derived.Lib.TrimByte
import Derived.Lib.Repeat
namespace Go.Proofs.YtkebngldmcoaaaaGreatDoor
open Go.Lib
set_option linter.unusedVariables false

/-- a piece of one byte -/
def isPc (c : UInt8) : Bool := c == 69 || (decide (48 ≤ c.toNat) && decide (c.toNat ≤ 57))

/-- how many bytes the pieces have that stand first -/
def npc : List UInt8 → Nat
  | [] => 0
  | [c] => if isPc c then 1 else 0
  | c :: d :: l => if isPc c then npc (d :: l) + 1 else if c == 194 && d == 175 then npc l + 2 else 0

theorem npc_pc {c : UInt8} (h : isPc c = true) (l : List UInt8) : npc (c :: l) = npc l + 1 := by
  cases l with
  | nil => simp [npc, h]
  | cons d l => rw [npc, if_pos h]
theorem npc_not {c : UInt8} (h : isPc c = false) (h2 : c ≠ 194) (l : List UInt8) : npc (c :: l) = 0 := by
  cases l with
  | nil => rw [npc, if_neg (by rw [h]; decide)]
  | cons d l => rw [npc, if_neg (by rw [h]; decide), if_neg (by simp [h2])]
theorem npc_sign (l : List UInt8) : npc (194 :: 175 :: l) = npc l + 2 := by rw [npc, if_neg (by decide), if_pos (by decide)]
theorem npc_half {d : UInt8} (h : d ≠ 175) (l : List UInt8) : npc (194 :: d :: l) = 0 := by rw [npc, if_neg (by decide), if_neg (by simp [h])]
theorem npc_last : npc [194] = 0 := by decide
theorem npc_nil : npc [] = 0 := rfl

theorem npc_le : ∀ (l : List UInt8), npc l ≤ l.length
  | [] => Nat.le_refl _
  | [c] => by rw [npc]; split <;> simp
  | c :: d :: l => by
    have h1 := npc_le (d :: l)
    have h2 := npc_le l
    rw [npc]
    split
    · simp only [List.length_cons] at *; omega
    · split <;> simp only [List.length_cons] at * <;> omega

/-- a space ends the pieces, whatever stands ahead of it -/
theorem npc_space : ∀ (l x : List UInt8), npc (l ++ 32 :: x) = npc l
  | [], x => npc_not (by decide) (by decide) x
  | [c], x => by
    by_cases h : isPc c = true
    · rw [List.cons_append, npc_pc h, npc_pc h, List.nil_append, npc_not (by decide) (by decide)]; rfl
    · have hf : isPc c = false := by simpa using h
      by_cases h2 : c = 194
      · subst h2; rw [List.cons_append, List.nil_append, npc_half (by decide)]; rfl
      · rw [List.cons_append, npc_not hf h2, npc_not hf h2]
  | c :: d :: l, x => by
    have h1 := npc_space (d :: l) x
    have h2 := npc_space l x
    by_cases h : isPc c = true
    · rw [List.cons_append, npc_pc h, npc_pc h, h1]
    · have hf : isPc c = false := by simpa using h
      by_cases h3 : c = 194
      · subst h3
        by_cases h4 : d = 175
        · subst h4; rw [List.cons_append, List.cons_append, npc_sign, npc_sign, h2]
        · rw [List.cons_append, List.cons_append, npc_half h4, npc_half h4]
      · rw [List.cons_append, npc_not hf h3, npc_not hf h3]

theorem npc_dd (u : Nat) (x : List UInt8) : npc (decDigits u ++ x) = (decDigits u).length + npc x := by
  have : ∀ l : List UInt8, (∀ c ∈ l, 48 ≤ c.toNat ∧ c.toNat ≤ 57) → npc (l ++ x) = l.length + npc x := by
    intro l
    induction l with
    | nil => intro _; simp
    | cons c l ih =>
      intro h
      have hc := h c (by simp)
      rw [List.cons_append, npc_pc (by unfold isPc; simp [hc.1, hc.2]), ih (fun d hd => h d (by simp [hd])), List.length_cons]
      omega
  exact this _ (dd_bytes u)
theorem npc_num (n : Int) (x : List UInt8) : npc (num n ++ x) = (num n).length + npc x := by
  unfold num
  split
  · rw [List.cons_append, List.cons_append, npc_sign, npc_dd]; simp only [List.length_cons]; omega
  · exact npc_dd _ _
theorem npc_text {m e : Int} (x : List UInt8) : npc (text m e ++ x) = (text m e).length + npc x := by
  unfold text
  split
  · split
    · exact npc_num _ _
    · rw [List.append_assoc, npc_num, List.cons_append, npc_pc (by decide), npc_num, List.length_append, List.length_cons]; omega
  · simp

/-- the number whose text, of either kind, is l -/
def oneD (l : List UInt8) : Dc × Bool := if (parseD l).2 = true then parseD l else if num (numOf l) = l then norm (numOf l) 0 else ((0, 0), false)

theorem oneD_of {l : List UInt8} (h : (parseD l).2 = true) : oneD l = parseD l := by rw [oneD, if_pos h]

theorem norm_int {n : Int} (hn : In n) : norm n 0 = ((norm n 0).1, true) := by
  have := norm_of_int hn
  exact Prod.ext rfl this

theorem parse_num_in {n m e : Int} (hn : In n) (h : parseD (num n) = ((m, e), true)) : norm n 0 = ((m, e), true) := by
  obtain ⟨h1, h2⟩ := parseD_true (l := num n) (by rw [h])
  rw [h] at h1 h2
  simp only at h1 h2
  by_cases he : e = 0
  · subst he
    rw [text_plain h1] at h2
    obtain rfl := num_inj h2
    have := (rightB_iff hn).1 h1
    exact norm_self this
  · rw [text_exp h1 he] at h2
    exact absurd rfl (num_noE n 69 (by rw [← h2]; simp))

theorem oneD_num {n : Int} (hn : In n) : oneD (num n) = norm n 0 := by
  unfold oneD
  split
  · rename_i h
    obtain ⟨⟨⟨m, e⟩, b⟩, hp⟩ : ∃ r, parseD (num n) = r := ⟨_, rfl⟩
    rw [hp] at h ⊢
    simp only at h
    subst h
    exact (parse_num_in hn hp).symm
  · rw [numOf_num hn, if_pos rfl]

theorem oneD_text {m e : Int} (hm : In m) (h : rightB m e = true) : oneD (text m e) = ((m, e), true) := by
  have := parseD_text hm h
  rw [oneD_of (by rw [this]), this]

theorem oneD_in (l : List UInt8) : In (oneD l).1.1 ∧ In (oneD l).1.2 := by
  unfold oneD
  split
  · exact parseD_in l
  · split
    · exact ⟨norm_in (numOf_in l), norm_exp_in (numOf_in l)⟩
    · constructor <;> constructor <;> decide

theorem oneD_right {l : List UInt8} (h : (oneD l).2 = true) : rightB (oneD l).1.1 (oneD l).1.2 = true := by
  unfold oneD at h ⊢
  split
  · rename_i hp
    exact (parseD_true hp).1
  · rename_i hp
    rw [if_neg hp] at h
    split
    · rename_i hn
      rw [if_pos hn] at h
      exact rightB_of (norm_right (numOf_in l) h)
    · rename_i hn
      rw [if_neg hn] at h
      cases h

theorem oneD_false {l : List UInt8} (h : (oneD l).2 = false) : (oneD l).1 = (0, 0) := by
  unfold oneD at h ⊢
  split
  · rename_i hp
    rw [if_pos hp] at h
    rw [h] at hp
    cases hp
  · rename_i hp
    rw [if_neg hp] at h
    split
    · rename_i hn
      rw [if_pos hn] at h
      exact norm_false h
    · rfl

theorem oneD_nil : oneD [] = ((0, 0), false) := by
  have h1 : (parseD []).2 = false := by
    unfold parseD
    rw [if_neg]
    have : numOf (cutE []).1 = 0 ∧ numOf (cutE []).2.1 = 0 := ⟨numOf_nil, numOf_nil⟩
    rw [this.1, this.2, text_plain zero_right]
    exact num_ne 0
  rw [oneD, if_neg (by rw [h1]; decide), if_neg (num_ne _)]

/-- decimals end in a nought just as what they are worth is a multiple of ten -/
theorem dd_mul (u j : Nat) (hu : u ≠ 0) : decDigits (u * 10 ^ j) = decDigits u ++ List.replicate j 48 := by
  induction j with
  | zero => simp
  | succ j ih =>
    have hp : 0 < 10 ^ j := Nat.pow_pos (by decide)
    have h1 : 0 < u * 10 ^ j := Nat.mul_pos (by omega) hp
    have e : u * 10 ^ (j + 1) = u * 10 ^ j * 10 := by rw [Nat.pow_succ, Nat.mul_assoc]
    rw [e, dd_big (by omega), show u * 10 ^ j * 10 / 10 = u * 10 ^ j by omega, ih, show u * 10 ^ j * 10 % 10 = 0 by omega, List.replicate_succ', List.append_assoc]
    rfl
theorem num_mul {q : Int} (j : Nat) (hq : q ≠ 0) : num (q * 10 ^ j) = num q ++ List.replicate j 48 := by
  have hp := pow_pos10 j
  have ha : (q * 10 ^ j).natAbs = q.natAbs * 10 ^ j := by rw [Int.natAbs_mul, Int.natAbs_pow]; rfl
  by_cases h : q < 0
  · have h2 : q * 10 ^ j < 0 := Int.mul_neg_of_neg_of_pos h hp
    rw [num_neg h, num_neg h2, ha, dd_mul _ _ (by omega)]
    rfl
  · have h2 : ¬ q * 10 ^ j < 0 := by
      have := Int.mul_nonneg (show 0 ≤ q by omega) (show 0 ≤ (10 : Int) ^ j by omega)
      omega
    rw [num_pos h, num_pos h2, ha, dd_mul _ _ (by omega)]
theorem dd_last {u : Nat} (hu : u % 10 ≠ 0) : ∃ p c, decDigits u = p ++ [c] ∧ c ≠ 48 := by
  by_cases h : u < 10
  · refine ⟨[], UInt8.ofNat (48 + u), dd_small h, fun e => ?_⟩
    have := congrArg UInt8.toNat e
    rw [dig_nat h] at this
    have h48 : (48 : UInt8).toNat = 48 := rfl
    omega
  · refine ⟨_, _, dd_big h, fun e => ?_⟩
    have := congrArg UInt8.toNat e
    rw [dig_nat (by omega)] at this
    have h48 : (48 : UInt8).toNat = 48 := rfl
    omega
theorem num_last {q : Int} (hq : q % 10 ≠ 0) : ∃ p c, num q = p ++ [c] ∧ c ≠ 48 := by
  obtain ⟨p, c, h1, h2⟩ := dd_last (u := q.natAbs) (by omega)
  unfold num
  split
  · exact ⟨194 :: 175 :: p, c, by rw [h1]; rfl, h2⟩
  · exact ⟨p, c, h1, h2⟩
theorem num_zero : num 0 = [48] := by rw [num_pos (by decide)]; exact dd_small (by decide)

/-- two texts, each with noughts behind, whose front parts do not end in a nought -/
theorem zeros_inj {a b : List UInt8} {i j : Nat} (ha : a.getLast? ≠ some 48) (hb : b.getLast? ≠ some 48) (h : a ++ List.replicate i 48 = b ++ List.replicate j 48) : a = b ∧ i = j := by
  induction i generalizing j with
  | zero =>
    cases j with
    | zero => simpa using h
    | succ j =>
      rw [List.replicate_succ', ← List.append_assoc] at h
      simp only [List.replicate_zero, List.append_nil] at h
      rw [h] at ha
      simp at ha
  | succ i ih =>
    cases j with
    | zero =>
      rw [List.replicate_succ', ← List.append_assoc] at h
      simp only [List.replicate_zero, List.append_nil] at h
      rw [← h] at hb
      simp at hb
    | succ j =>
      rw [List.replicate_succ', List.replicate_succ', ← List.append_assoc, ← List.append_assoc] at h
      have := ih (List.append_cancel_right h)
      exact ⟨this.1, by omega⟩

/-- the number of a text that ends in noughts: what stands ahead of them, and how many they are -/
def roundD (t : List UInt8) (k : Nat) : Dc × Bool :=
  if (parseD t).2 = true ∧ (parseD t).1.2 = 0 ∧ (wholeD (parseD t).1.1 k).2 = true then (((parseD t).1.1, (k : Int)), true) else ((0, 0), false)

theorem whole_true {m e : Int} (h : (wholeD m e).2 = true) : rightB m e = true ∧ 0 ≤ e ∧ In (m * 10 ^ e.toNat) ∧ (wholeD m e).1 = m * 10 ^ e.toNat := by
  unfold wholeD at h ⊢
  split
  · rename_i hc
    exact ⟨hc.1, hc.2.1, hc.2.2, rfl⟩
  · rename_i hc
    rw [if_neg hc] at h
    cases h

/-- what the number is, if the text is a whole number's: not one of parseD's -/
theorem round_of {l t : List UInt8} {k : Nat} (hl : l = t ++ List.replicate k 48) (ht : t.getLast? ≠ some 48 ∨ t = [48]) (hp : (parseD l).2 = false) : oneD l = roundD t k := by
  rw [oneD, if_neg (by rw [hp]; decide)]
  have hz : l ≠ [48] := by
    intro e
    have : parseD [48] = ((0, 0), true) := by
      have := parseD_text (m := 0) (e := 0) ⟨by decide, by decide⟩ zero_right
      rw [text_plain zero_right, num_zero] at this
      exact this
    rw [e, this] at hp
    cases hp
  unfold roundD
  split
  · rename_i hn
    have hv := numOf_in l
    generalize numOf l = v at hn hv
    by_cases h0 : v = 0
    · subst h0
      rw [num_zero] at hn
      exact absurd hn.symm hz
    · obtain ⟨q, j, hq, hq10, hj⟩ := parts_in hv h0
      have hqi := q_in hv hq
      have hqr : rightB q 0 = true := rightB_of (.inr ⟨hq10, by decide, by decide⟩)
      obtain ⟨p, c, h1, h2⟩ := num_last hq10
      have hnm : num q ++ List.replicate j 48 = t ++ List.replicate k 48 := by rw [← num_mul j (by omega), ← hq, hn, hl]
      have hlast : (num q).getLast? ≠ some 48 := by rw [h1]; simp [h2]
      have htn : t.getLast? ≠ some 48 := by
        rcases ht with h | rfl
        · exact h
        · exfalso
          have e : ([48] : List UInt8) ++ List.replicate k 48 = [] ++ List.replicate (k + 1) 48 := by simp [List.replicate_succ]
          rw [e] at hnm
          exact num_ne q (zeros_inj hlast (by simp) hnm).1
      obtain ⟨rfl, rfl⟩ := zeros_inj hlast htn hnm
      have hpt : parseD (num q) = ((q, 0), true) := by
        have := parseD_text hqi hqr
        rwa [text_plain hqr] at this
      have hrj : rightB q (j : Int) = true := rightB_of (.inr ⟨hq10, by omega, by omega⟩)
      have hw : wholeD q (j : Int) = (v, true) := whole_yes hrj rfl hq hv
      rw [hpt]
      simp only
      rw [if_pos (by simp [hw]), norm_of hq hq10 (by omega)]
      have : okExp (0 + (j : Nat)) = true := by simp [okExp]; omega
      rw [if_pos this, Int.zero_add]
  · rename_i hn
    rw [if_neg]
    rintro ⟨h1, h2, h3⟩
    obtain ⟨hr, htx⟩ := parseD_true h1
    have hmi := (parseD_in t).1
    obtain ⟨⟨⟨m, e⟩, b⟩, hd⟩ : ∃ r, parseD t = r := ⟨_, rfl⟩
    rw [hd] at h1 h2 h3 hr htx hmi
    simp only at h1 h2 h3 hr htx hmi
    subst h1 h2
    rw [text_plain hr] at htx
    obtain ⟨hrk, _, hin, _⟩ := whole_true h3
    rw [Int.toNat_natCast] at hin
    have hm0 : m ≠ 0 := by
      intro e
      subst e
      have hk : k = 0 := by
        rcases (rightB_iff hmi).1 hrk with ⟨_, h⟩ | ⟨h, _⟩ <;> omega
      subst hk
      rw [← htx, num_zero] at hl
      exact hz (by rw [hl]; simp)
    have : l = num (m * 10 ^ k) := by rw [num_mul k hm0, htx, hl]
    rw [this, numOf_num hin] at hn
    exact hn rfl

/-- what stands behind a space, if a piece of a number stands first there -/
def nextD : List UInt8 → Option (List UInt8)
  | 32 :: r => if npc r = 0 then none else some r
  | _ => none
theorem nextD_space (r : List UInt8) : nextD (32 :: r) = if npc r = 0 then none else some r := rfl
theorem nextD_other {r : List UInt8} (h : r.head? ≠ some 32) : nextD r = none := by
  unfold nextD
  split
  · exact absurd rfl h
  · rfl
theorem nextD_some {r t : List UInt8} (h : nextD r = some t) : r = 32 :: t ∧ npc t ≠ 0 := by
  unfold nextD at h
  split at h
  · split at h
    · cases h
    · cases h
      exact ⟨rfl, by assumption⟩
  · cases h
theorem next_len {r t : List UInt8} (h : nextD r = some t) : t.length < r.length := by
  rw [(nextD_some h).1]; simp

/-- the numbers that stand first, and what follows; none: a text is no number's -/
def readF : Nat → List UInt8 → Option (List Dc × List UInt8)
  | 0, _ => none
  | f + 1, l =>
    if (oneD (l.take (npc l))).2 = true then
      (match nextD (l.drop (npc l)) with
      | none => some ([(oneD (l.take (npc l))).1], l.drop (npc l))
      | some t => (readF f t).map fun p => ((oneD (l.take (npc l))).1 :: p.1, p.2))
    else none
def readO (l : List UInt8) : Option (List Dc × List UInt8) := readF (l.length + 1) l

theorem readF_more : ∀ (f : Nat) (l : List UInt8), l.length < f → ∀ g, l.length < g → readF f l = readF g l
  | 0, l, h, _, _ => absurd h (by omega)
  | f + 1, l, h, 0, hg => absurd hg (by omega)
  | f + 1, l, h, g + 1, hg => by
    rw [readF, readF]
    split
    · cases hn : nextD (l.drop (npc l)) with
      | none => rfl
      | some t =>
        have h1 := next_len hn
        have h2 : (l.drop (npc l)).length ≤ l.length := by simp
        simp only
        rw [readF_more f t (by omega) g (by omega)]
    · rfl
theorem readO_wrong {l : List UInt8} (h : (oneD (l.take (npc l))).2 = false) : readO l = none := by
  unfold readO; rw [readF, if_neg (by rw [h]; decide)]
theorem readO_last {l : List UInt8} (h : (oneD (l.take (npc l))).2 = true) (hn : nextD (l.drop (npc l)) = none) : readO l = some ([(oneD (l.take (npc l))).1], l.drop (npc l)) := by
  unfold readO; rw [readF, if_pos h, hn]
theorem readO_on {l t : List UInt8} (h : (oneD (l.take (npc l))).2 = true) (hn : nextD (l.drop (npc l)) = some t) : readO l = (readO t).map fun p => ((oneD (l.take (npc l))).1 :: p.1, p.2) := by
  have h1 := next_len hn
  have h2 : (l.drop (npc l)).length ≤ l.length := by simp
  unfold readO
  rw [readF, if_pos h, hn]
  simp only
  rw [readF_more l.length t (by omega) (t.length + 1) (by omega)]
theorem readO_npc {l : List UInt8} {p : List Dc × List UInt8} (h : readO l = some p) : npc l ≠ 0 := by
  intro h0
  rw [readO_wrong (by rw [h0, List.take_zero, oneD_nil])] at h
  cases h

theorem readO_ind {P : List UInt8 → Prop} (h : ∀ l, (∀ t, nextD (l.drop (npc l)) = some t → P t) → P l) (l : List UInt8) : P l := by
  have : ∀ (n : Nat) (l : List UInt8), l.length < n → P l := by
    intro n
    induction n with
    | zero => intro l hl; exact absurd hl (by omega)
    | succ n ih =>
      intro l hl
      refine h l fun t ht => ih t ?_
      have h1 := next_len ht
      have h2 : (l.drop (npc l)).length ≤ l.length := by simp
      omega
  exact this _ l (Nat.lt_succ_self _)

theorem cases3 (l : List UInt8) : ((oneD (l.take (npc l))).2 = false ∧ readO l = none) ∨
    ((oneD (l.take (npc l))).2 = true ∧ nextD (l.drop (npc l)) = none ∧ readO l = some ([(oneD (l.take (npc l))).1], l.drop (npc l))) ∨
    ∃ t, (oneD (l.take (npc l))).2 = true ∧ nextD (l.drop (npc l)) = some t ∧ readO l = (readO t).map fun p => ((oneD (l.take (npc l))).1 :: p.1, p.2) := by
  cases h : (oneD (l.take (npc l))).2 with
  | false => exact .inl ⟨rfl, readO_wrong h⟩
  | true =>
    cases hn : nextD (l.drop (npc l)) with
    | none => exact .inr (.inl ⟨rfl, rfl, readO_last h hn⟩)
    | some t => exact .inr (.inr ⟨t, rfl, rfl, readO_on h hn⟩)

/-- all that is read is right, and what is left is the end of the text, and less -/
theorem readO_right (l : List UInt8) : ∀ ds r, readO l = some (ds, r) → (∀ d ∈ ds, rightB d.1 d.2 = true ∧ In d.1 ∧ In d.2) ∧ ds ≠ [] ∧ ∃ p, p ≠ [] ∧ l = p ++ r := by
  refine readO_ind (P := fun l => ∀ ds r, readO l = some (ds, r) → (∀ d ∈ ds, rightB d.1 d.2 = true ∧ In d.1 ∧ In d.2) ∧ ds ≠ [] ∧ ∃ p, p ≠ [] ∧ l = p ++ r) ?_ l
  intro l ih ds r h
  have h0 := readO_npc h
  have htk : l.take (npc l) ≠ [] := by
    intro e
    have := congrArg List.length e
    simp only [List.length_take, List.length_nil] at this
    have := npc_le l
    omega
  rcases cases3 l with ⟨_, h2⟩ | ⟨h1, h2, h3⟩ | ⟨t, h1, h2, h3⟩
  · rw [h2] at h; cases h
  · rw [h3] at h
    cases h
    refine ⟨?_, by simp, l.take (npc l), htk, (List.take_append_drop _ _).symm⟩
    intro d hd
    rw [List.mem_singleton] at hd
    subst hd
    exact ⟨oneD_right h1, oneD_in _⟩
  · rw [h3] at h
    cases hr : readO t with
    | none => rw [hr] at h; cases h
    | some p =>
      obtain ⟨ds', r'⟩ := p
      rw [hr] at h
      simp only [Option.map_some, Option.some.injEq, Prod.mk.injEq] at h
      obtain ⟨rfl, rfl⟩ := h
      obtain ⟨g1, g2, p, g3, g4⟩ := ih t h2 ds' r' hr
      refine ⟨?_, by simp, l.take (npc l) ++ 32 :: p, by simp, ?_⟩
      · intro d hd
        rcases List.mem_cons.1 hd with rfl | hd
        · exact ⟨oneD_right h1, oneD_in _⟩
        · exact g1 d hd
      · have e1 := (nextD_some h2).1
        rw [List.append_assoc, List.cons_append, ← g4, ← e1, List.take_append_drop]

/-- there are no more numbers than bytes -/
theorem readO_few (l : List UInt8) : ∀ ds r, readO l = some (ds, r) → ds.length ≤ l.length ∧ r.length ≤ l.length := by
  refine readO_ind (P := fun l => ∀ ds r, readO l = some (ds, r) → ds.length ≤ l.length ∧ r.length ≤ l.length) ?_ l
  intro l ih ds r h
  have h0 := readO_npc h
  have hle := npc_le l
  rcases cases3 l with ⟨_, h2⟩ | ⟨h1, h2, h3⟩ | ⟨t, h1, h2, h3⟩
  · rw [h2] at h; cases h
  · rw [h3] at h
    cases h
    simp only [List.length_cons, List.length_nil, List.length_drop]
    omega
  · rw [h3] at h
    cases hr : readO t with
    | none => rw [hr] at h; cases h
    | some p =>
      obtain ⟨ds', r'⟩ := p
      rw [hr] at h
      simp only [Option.map_some, Option.some.injEq, Prod.mk.injEq] at h
      obtain ⟨rfl, rfl⟩ := h
      have := ih t h2 ds' r' hr
      have h4 := next_len h2
      have h5 : (l.drop (npc l)).length ≤ l.length := by simp
      simp only [List.length_cons]
      omega

/-- rows with a space between are read as one -/
theorem readO_parts {t e : List UInt8} {ds : List Dc} (ht : readO t = some (ds, e)) (l : List UInt8) : ∀ zs, readO l = some (zs, []) → readO (l ++ 32 :: t) = some (zs ++ ds, e) := by
  have hnt := readO_npc ht
  refine readO_ind (P := fun l => ∀ zs, readO l = some (zs, []) → readO (l ++ 32 :: t) = some (zs ++ ds, e)) ?_ l
  intro l ih zs h
  have hle := npc_le l
  have hn : npc (l ++ 32 :: t) = npc l := npc_space l t
  have htk : (l ++ 32 :: t).take (npc l) = l.take (npc l) := List.take_append_of_le_length hle
  have hdr : (l ++ 32 :: t).drop (npc l) = l.drop (npc l) ++ 32 :: t := List.drop_append_of_le_length hle
  rcases cases3 l with ⟨_, h2⟩ | ⟨h1, h2, h3⟩ | ⟨u, h1, h2, h3⟩
  · rw [h2] at h; cases h
  · rw [h3] at h
    simp only [Option.some.injEq, Prod.mk.injEq] at h
    obtain ⟨rfl, he⟩ := h
    rw [readO_on (t := t) (by rw [hn, htk]; exact h1) (by rw [hn, hdr, he, List.nil_append, nextD_space, if_neg hnt]), ht, hn, htk]
    rfl
  · rw [h3] at h
    cases hr : readO u with
    | none => rw [hr] at h; cases h
    | some p =>
      obtain ⟨ds', r'⟩ := p
      rw [hr] at h
      simp only [Option.map_some, Option.some.injEq, Prod.mk.injEq] at h
      obtain ⟨rfl, rfl⟩ := h
      obtain ⟨e1, e2⟩ := nextD_some h2
      rw [readO_on (t := u ++ 32 :: t) (by rw [hn, htk]; exact h1) (by rw [hn, hdr, e1, List.cons_append, nextD_space, npc_space, if_neg e2]), ih u h2 ds' hr, hn, htk]
      rfl

/-- a row of texts, each of which is a number's -/
theorem readO_join {t : Dc → List UInt8} (more : List UInt8) (hm : npc more = 0) (hm2 : nextD more = none)
    (ht : ∀ d (x : List UInt8), npc (t d ++ x) = (t d).length + npc x) :
    ∀ (d : Dc) (ds : List Dc) (f : Dc → Dc), (∀ x ∈ d :: ds, oneD (t x) = (f x, true)) →
      readO (join ((d :: ds).map t) [32] ++ more) = some ((d :: ds).map f, more)
  | d, [], f, h => by
    have h1 := h d (by simp)
    have hn : npc (t d ++ more) = (t d).length := by rw [ht, hm]; rfl
    rw [List.map_cons, List.map_nil, join_one, readO_last (by rw [hn, List.take_left, h1]) (by rw [hn, List.drop_left]; exact hm2), hn, List.take_left, List.drop_left, h1]
    rfl
  | d, d2 :: ds, f, h => by
    have h1 := h d (by simp)
    have ih := readO_join more hm hm2 ht d2 ds f (fun x hx => h x (by simp [List.mem_cons.1 hx]))
    have e : join ((d :: d2 :: ds).map t) [32] ++ more = t d ++ 32 :: (join ((d2 :: ds).map t) [32] ++ more) := by
      simp [join, List.intercalate]
    have hn : npc (t d ++ 32 :: (join ((d2 :: ds).map t) [32] ++ more)) = (t d).length := by rw [ht, npc_not (by decide) (by decide)]; rfl
    rw [e, readO_on (t := join ((d2 :: ds).map t) [32] ++ more) (by rw [hn, List.take_left, h1]) (by rw [hn, List.drop_left, nextD_space, if_neg (readO_npc ih)]), ih, hn, List.take_left, h1]
    rfl

/-- the texts of rows -/
def intsT (xs : List Int) : List UInt8 := join (xs.map num) [32]
def decsR (ds : List Dc) : Bool := ds.all fun d => rightB d.1 d.2
def decsT (ds : List Dc) : List UInt8 := if decsR ds = true then join (ds.map fun d => text d.1 d.2) [32] else []

theorem join_app {a b : List (List UInt8)} (ha : a ≠ []) (hb : b ≠ []) : join (a ++ b) [32] = join a [32] ++ 32 :: join b [32] := by
  induction a with
  | nil => exact absurd rfl ha
  | cons x a ih =>
    cases a with
    | nil =>
      cases b with
      | nil => exact absurd rfl hb
      | cons y b => simp [join, List.intercalate]
    | cons y a =>
      have := ih (by simp)
      have e : ∀ r, join (x :: y :: r) [32] = x ++ 32 :: join (y :: r) [32] := fun r => by simp [join, List.intercalate]
      rw [List.cons_append, List.cons_append, e, e, ← List.cons_append, this, List.append_assoc, List.cons_append]

theorem join_snoc {a : List (List UInt8)} (ha : a ≠ []) (x : List UInt8) : join (a ++ [x]) [32] = join a [32] ++ 32 :: x := by
  rw [join_app ha (by simp), join_one]

theorem ints_app {a b : List Int} (ha : a ≠ []) (hb : b ≠ []) : intsT (a ++ b) = intsT a ++ 32 :: intsT b := by
  unfold intsT
  rw [List.map_append, join_app (by simpa using ha) (by simpa using hb)]
theorem decsR_app (a b : List Dc) : decsR (a ++ b) = (decsR a && decsR b) := by unfold decsR; rw [List.all_append]
theorem decs_app {a b : List Dc} (ha : a ≠ []) (hb : b ≠ []) (h1 : decsR a = true) (h2 : decsR b = true) : decsT (a ++ b) = decsT a ++ 32 :: decsT b := by
  unfold decsT
  rw [decsR_app, h1, h2, if_pos rfl, if_pos rfl, if_pos (by rfl), List.map_append, join_app (by simpa using ha) (by simpa using hb)]
theorem decs_wrong {a : List Dc} (h : decsR a = false) : decsT a = [] := by unfold decsT; rw [h]; rfl
theorem decs_ne {a : List Dc} (ha : a ≠ []) (h : decsR a = true) : decsT a ≠ [] := by
  unfold decsT
  rw [if_pos h]
  cases a with
  | nil => exact absurd rfl ha
  | cons d a =>
    have hd : rightB d.1 d.2 = true := by
      unfold decsR at h
      simp only [List.all_cons, Bool.and_eq_true] at h
      exact h.1
    rw [List.map_cons, join_cons]
    intro e
    exact text_ne hd (List.append_eq_nil_iff.1 e).1

theorem join_len {xs : List (List UInt8)} {m : Nat} (h : ∀ x ∈ xs, x.length ≤ m) : (join xs [32]).length ≤ xs.length * (m + 1) := by
  have hl : ∀ ys : List (List UInt8), (∀ x ∈ ys, x.length ≤ m) → lens ys ≤ ys.length * m := by
    intro ys
    induction ys with
    | nil => intro _; simp [lens]
    | cons y ys ih =>
      intro hy
      have h1 := hy y (by simp)
      have h2 := ih (fun x hx => hy x (by simp [hx]))
      have : lens (y :: ys) = y.length + lens ys := by simp [lens]
      rw [this, List.length_cons, Nat.add_mul]
      omega
  cases xs with
  | nil => simp [join_nil]
  | cons x xs =>
    rw [join_length]
    have := hl (x :: xs) h
    simp only [List.length_cons, List.length_nil] at *
    rw [Nat.mul_add]
    omega
theorem ints_len {xs : List Int} (h : ∀ x ∈ xs, In x) : (intsT xs).length ≤ xs.length * 22 := by
  unfold intsT
  have := join_len (xs := xs.map num) (m := 21) (by
    intro x hx
    obtain ⟨n, hn, rfl⟩ := List.mem_map.1 hx
    exact num_len (h n hn))
  simpa using this
theorem decs_len {ds : List Dc} (h : ∀ d ∈ ds, In d.1) : (decsT ds).length ≤ ds.length * 30 := by
  unfold decsT
  split
  · have := join_len (xs := ds.map fun d => text d.1 d.2) (m := 29) (by
      intro x hx
      obtain ⟨n, hn, rfl⟩ := List.mem_map.1 hx
      exact text_len (h n hn))
    simpa using this
  · simp

theorem ints_back {xs : List Int} (h0 : xs ≠ []) (h : ∀ x ∈ xs, In x) (more : List UInt8) (hm : npc more = 0) (hm2 : nextD more = none) :
    readO (intsT xs ++ more) = some (xs.map fun n => (norm n 0).1, more) := by
  cases xs with
  | nil => exact absurd rfl h0
  | cons x xs =>
    have := readO_join (t := fun d => num d.1) more hm hm2 (fun d y => npc_num d.1 y) (x, 0) (xs.map fun n => (n, 0)) (fun d => (norm d.1 0).1) (by
      intro d hd
      have hi : In d.1 := by
        rcases List.mem_cons.1 hd with rfl | hd
        · exact h x (by simp)
        · obtain ⟨n, hn, rfl⟩ := List.mem_map.1 hd
          exact h n (by simp [hn])
      rw [oneD_num hi]
      exact norm_int hi)
    simpa [intsT, Function.comp_def] using this
theorem decs_back {ds : List Dc} (h0 : ds ≠ []) (h : ∀ d ∈ ds, In d.1) (hr : decsR ds = true) (more : List UInt8) (hm : npc more = 0) (hm2 : nextD more = none) :
    readO (decsT ds ++ more) = some (ds, more) := by
  have hall : ∀ d ∈ ds, rightB d.1 d.2 = true := by
    intro d hd
    unfold decsR at hr
    exact List.all_eq_true.1 hr d hd
  cases ds with
  | nil => exact absurd rfl h0
  | cons x xs =>
    have := readO_join (t := fun d => text d.1 d.2) more hm hm2 (fun d y => npc_text y) x xs id (fun d hd => oneD_text (h d hd) (hall d hd))
    unfold decsT
    rw [if_pos hr]
    simpa using this
theorem text_back {m e : Int} (hm : In m) (hr : rightB m e = true) : readO (text m e) = some ([(m, e)], []) := by
  have := decs_back (ds := [(m, e)]) (by simp) (by simpa using hm) (by simp [decsR, hr]) [] rfl rfl
  simpa [decsT, decsR, hr, join_one] using this
theorem int_back {n : Int} (hn : In n) : readO (num n) = some ([(norm n 0).1], []) := by
  have := ints_back (xs := [n]) (by simp) (by simpa using hn) [] rfl rfl
  simpa [intsT, join_one] using this

theorem dd_zero {u : Nat} {r : List UInt8} (h : decDigits u = 48 :: r) : u = 0 ∧ r = [] := by
  by_cases h0 : u < 10
  · rw [dd_small h0] at h
    simp only [List.cons.injEq] at h
    have := congrArg UInt8.toNat h.1
    rw [dig_nat h0] at this
    have h48 : (48 : UInt8).toNat = 48 := rfl
    exact ⟨by omega, h.2.symm⟩
  · exfalso
    have : ∀ u : Nat, u ≠ 0 → ∀ r, decDigits u ≠ 48 :: r := by
      intro u
      induction u using Nat.strongRecOn with
      | _ u ih =>
        intro hu r h
        by_cases h0 : u < 10
        · rw [dd_small h0] at h
          simp only [List.cons.injEq] at h
          have := congrArg UInt8.toNat h.1
          rw [dig_nat h0] at this
          have h48 : (48 : UInt8).toNat = 48 := rfl
          omega
        · rw [dd_big h0] at h
          cases hd : decDigits (u / 10) with
          | nil => exact dd_ne _ hd
          | cons c s =>
            rw [hd, List.cons_append, List.cons.injEq] at h
            rw [h.1] at hd
            exact ih (u / 10) (by omega) (by omega) s hd
    exact this u (by omega) r h
theorem num_nought {n : Int} {r : List UInt8} (h : num n = 48 :: r) : n = 0 ∧ r = [] := by
  unfold num at h
  split at h
  · simp at h
  · have := dd_zero h
    exact ⟨by omega, this.2⟩

/-- a nought ahead of a number makes it none -/
theorem nought_ahead {n : Int} (hn : In n) : readO (48 :: num n) = none := by
  have hn1 : npc (48 :: num n) = (48 :: num n).length := by
    have := npc_num n []
    rw [npc_pc (by decide)]
    simp only [List.append_nil, npc_nil] at this
    rw [this, List.length_cons]
  apply readO_wrong
  rw [hn1, List.take_length]
  cases ho : (oneD (48 :: num n)).2 with
  | false => rfl
  | true =>
    exfalso
    unfold oneD at ho
    split at ho
    · rename_i hp
      obtain ⟨h1, h2⟩ := parseD_true hp
      have hi := (parseD_in (48 :: num n)).1
      generalize (parseD (48 :: num n)).1.1 = m at h1 h2 hi
      generalize (parseD (48 :: num n)).1.2 = e at h1 h2
      by_cases he : e = 0
      · subst he
        rw [text_plain h1] at h2
        exact num_ne n (num_nought h2).2
      · rw [text_exp h1 he] at h2
        have hm : m = 0 := by
          cases hc : num m with
          | nil => exact absurd hc (num_ne m)
          | cons c r =>
            rw [hc, List.cons_append, List.cons.injEq] at h2
            rw [h2.1] at hc
            exact (num_nought hc).1
        subst hm
        rcases (rightB_iff hi).1 h1 with ⟨_, h⟩ | ⟨h, _⟩
        · exact he h
        · exact h rfl
    · split at ho
      · rename_i hx
        exact num_ne n (num_nought hx).2
      · cases ho
end Go.Proofs.YtkebngldmcoaaaaGreatDoor
