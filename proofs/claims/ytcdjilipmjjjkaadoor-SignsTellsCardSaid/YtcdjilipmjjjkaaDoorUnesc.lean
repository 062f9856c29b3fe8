/-
  Escapes read back, as plain functions. Nothing is claimed here by itself.
-/
import Derived.Test.YtcdjilipmjjjkaaDoorRunes
namespace Go.Proofs.YtcdjilipmjjjkaaDoor
set_option maxRecDepth 10000

/-- a sign whose escape has its digits -/
def numbered (n : Nat) : Bool := isSign n && !decide (32 ≤ n ∧ n ≤ 126) && (stands n).isNone
/-- what a digit of base 16 is worth -/
def hexVal (b : UInt8) : Option Nat :=
  if 48 ≤ b.toNat ∧ b.toNat ≤ 57 then some (b.toNat - 48) else if 65 ≤ b.toNat ∧ b.toNat ≤ 70 then some (b.toNat - 55) else none
/-- digits and a brace behind k digits that are worth n -/
def numIn : Nat → Nat → List UInt8 → Nat × Nat
  | _, _, [] => (0, 0)
  | k, n, b :: r =>
    if b.toNat = 125 then (if k ≠ 0 ∧ numbered n = true then (n, 3 + k) else (0, 0))
    else match hexVal b with
      | none => (0, 0)
      | some d => if (k ≠ 0 ∧ n = 0) ∨ k = 6 then (0, 0) else numIn (k + 1) (16 * n + d) r
/-- the sign whose escape stands first behind an at sign, and how many bytes it has -/
def escIn : List UInt8 → Nat × Nat
  | _ :: x :: r => if x.toNat = 64 then (64, 2) else if x.toNat = 123 then numIn 0 0 r else match meant x with
    | some c => (c, 2)
    | none => (0, 0)
  | _ => (0, 0)
/-- the sign whose escape stands first, and how many bytes it has (0: there is none) -/
def stepD : List UInt8 → Nat × Nat
  | [] => (0, 0)
  | b :: r => if b.toNat = 64 then escIn (b :: r) else if plainB b = true then (b.toNat, 1) else (0, 0)
def unF : Nat → List UInt8 → Option (List UInt8)
  | _, [] => some []
  | 0, _ :: _ => none
  | k + 1, b :: r => if (stepD (b :: r)).2 = 0 then none else (unF k ((b :: r).drop (stepD (b :: r)).2)).map (bytesD (stepD (b :: r)).1 ++ ·)
/-- P7.2: the text whose escape it is -/
def unD (l : List UInt8) : Option (List UInt8) := unF l.length l

theorem numIn_nil (k n : Nat) : numIn k n [] = (0, 0) := rfl
theorem numIn_cons (k n : Nat) (b : UInt8) (r : List UInt8) : numIn k n (b :: r) =
    if b.toNat = 125 then (if k ≠ 0 ∧ numbered n = true then (n, 3 + k) else (0, 0))
    else match hexVal b with
      | none => (0, 0)
      | some d => if (k ≠ 0 ∧ n = 0) ∨ k = 6 then (0, 0) else numIn (k + 1) (16 * n + d) r := rfl
theorem hexVal_dig {d : Nat} (h : d < 16) : hexVal (hexDig d) = some d := by
  have hd := hexDig_nat h
  unfold hexVal
  by_cases h9 : d < 10
  · rw [if_pos h9] at hd
    rw [if_pos (by omega), hd, show 48 + d - 48 = d by omega]
  · rw [if_neg h9] at hd
    rw [if_neg (by omega), if_pos (by omega), hd, show 55 + d - 55 = d by omega]
theorem hexVal_some {b : UInt8} {d : Nat} (h : hexVal b = some d) : d < 16 ∧ b = hexDig d := by
  unfold hexVal at h
  by_cases h1 : 48 ≤ b.toNat ∧ b.toNat ≤ 57
  · rw [if_pos h1] at h
    have := Option.some.inj h
    refine ⟨by omega, UInt8.toNat_inj.1 ?_⟩
    rw [hexDig_nat (by omega), if_pos (by omega)]
    omega
  · rw [if_neg h1] at h
    by_cases h2 : 65 ≤ b.toNat ∧ b.toNat ≤ 70
    · rw [if_pos h2] at h
      have := Option.some.inj h
      refine ⟨by omega, UInt8.toNat_inj.1 ?_⟩
      rw [hexDig_nat (by omega), if_neg (by omega)]
      omega
    · rw [if_neg h2] at h
      cases h
theorem numIn_dig {k n d : Nat} (hd : d < 16) (h0 : k ≠ 0 → n ≠ 0) (h6 : k ≠ 6) (r : List UInt8) : numIn k n (hexDig d :: r) = numIn (k + 1) (16 * n + d) r := by
  have hn := hexDig_nat hd
  rw [numIn_cons, hexVal_dig hd, if_neg (by split at hn <;> omega)]
  simp only
  rw [if_neg (by rintro (⟨a, b⟩ | a); exact h0 a b; exact h6 a)]
theorem numIn_hex (c : Nat) : (hexD c).length ≤ 6 → ∀ (r : List UInt8), numIn 0 0 (hexD c ++ r) = numIn (hexD c).length c r := by
  induction c using Nat.strongRecOn with
  | _ c ih =>
    intro hl r
    by_cases hc : c < 16
    · rw [hex_small hc]
      show numIn 0 0 (hexDig c :: r) = _
      rw [numIn_dig hc (fun h => absurd rfl h) (by omega)]
      simp
    · have hb := hex_big hc
      have hL : (hexD c).length = (hexD (c / 16)).length + 1 := by rw [hb]; simp
      have hpos : 1 ≤ (hexD (c / 16)).length := (hex_len (k := c / 16 + 1) (by omega) (Nat.lt_of_lt_of_le (Nat.lt_succ_self _) (Nat.le_of_lt (Nat.lt_pow_self (by omega))))).2
      rw [hL, hb, List.append_assoc, ih (c / 16) (by omega) (by omega)]
      show numIn _ _ (hexDig (c % 16) :: r) = _
      rw [numIn_dig (by omega) (fun _ => by omega) (by omega)]
      congr 1
      omega

theorem brace_nat : (125 : UInt8).toNat = 125 := by decide
theorem stands_brace (c : Nat) : stands c ≠ some 123 := fun h => by
  have := meant_stands h
  rw [meant_brace] at this
  cases this
theorem stands_at (c : Nat) : stands c ≠ some 64 := fun h => by
  have := meant_stands h
  rw [meant_at] at this
  cases this
theorem oneD_at {c : Nat} (h : c = 64) : oneD c = [64, 64] := by unfold oneD; rw [if_pos h]
theorem oneD_plain {c : Nat} (h : c ≠ 64) (h2 : 32 ≤ c ∧ c ≤ 126) : oneD c = [UInt8.ofNat c] := by unfold oneD; rw [if_neg h, if_pos h2]
theorem oneD_tab {c : Nat} {t : UInt8} (h2 : ¬ (32 ≤ c ∧ c ≤ 126)) (ht : stands c = some t) : oneD c = [64, t] := by unfold oneD; rw [if_neg (by omega), if_neg h2, ht]
theorem oneD_num {c : Nat} (h2 : ¬ (32 ≤ c ∧ c ≤ 126)) (ht : stands c = none) : oneD c = 64 :: 123 :: (hexD c ++ [125]) := by unfold oneD; rw [if_neg (by omega), if_neg h2, ht]

theorem escIn_two (b x : UInt8) (r : List UInt8) : escIn (b :: x :: r) = if x.toNat = 64 then (64, 2) else if x.toNat = 123 then numIn 0 0 r else match meant x with
    | some c => (c, 2)
    | none => (0, 0) := rfl
theorem step_at {b : UInt8} (r : List UInt8) (h : b.toNat = 64) : stepD (b :: r) = escIn (b :: r) := by
  show (if b.toNat = 64 then _ else _) = _
  rw [if_pos h]
theorem step_other {b : UInt8} (r : List UInt8) (h : b.toNat ≠ 64) : stepD (b :: r) = if plainB b = true then (b.toNat, 1) else (0, 0) := by
  show (if b.toNat = 64 then _ else _) = _
  rw [if_neg h]

/-- a sign's escape is read as the sign, whatever follows -/
theorem step_one {c : Nat} (h : isSign c = true) (r : List UInt8) : stepD (oneD c ++ r) = (c, (oneD c).length) := by
  have hs := isSign_iff.1 h
  by_cases h1 : c = 64
  · rw [oneD_at h1, h1]
    rfl
  by_cases h2 : 32 ≤ c ∧ c ≤ 126
  · have hn : (UInt8.ofNat c).toNat = c := u8_nat (by omega)
    rw [oneD_plain h1 h2, List.cons_append, step_other _ (by omega), if_pos (plain_iff.2 (by omega)), hn]
    rfl
  cases ht : stands c with
  | some t =>
    rw [oneD_tab h2 ht, List.cons_append, step_at _ (by decide), List.cons_append, escIn_two, if_neg, if_neg, meant_stands ht]
    · rfl
    · intro e
      exact stands_brace c (by rw [ht]; congr 1; exact UInt8.toNat_inj.1 e)
    · intro e
      exact stands_at c (by rw [ht]; congr 1; exact UInt8.toNat_inj.1 e)
  | none =>
    have hl := hex_len (k := 6) (n := c) (by omega) (by omega)
    rw [oneD_num h2 ht, List.cons_append, List.cons_append, step_at _ (by decide), escIn_two, if_neg (by decide), if_pos (by decide), List.append_assoc, numIn_hex c hl.1]
    show numIn _ _ (125 :: r) = _
    have hnum : numbered c = true := by
      unfold numbered
      rw [h, ht]
      simp only [Option.isNone_none, Bool.and_true, Bool.true_and, Bool.not_eq_true', decide_eq_false_iff_not]
      exact h2
    rw [numIn_cons, if_pos brace_nat, if_pos ⟨by omega, hnum⟩]
    simp only [List.length_cons, List.length_append, List.length_nil, Prod.mk.injEq, true_and]
    omega

theorem numIn_inv : ∀ (r : List UInt8) (k n : Nat), (k = 0 → n = 0) → (numIn k n r).2 ≠ 0 →
    ∃ ds t, r = ds ++ 125 :: t ∧ numIn k n r = ((numIn k n r).1, 3 + k + ds.length) ∧ numbered (numIn k n r).1 = true ∧ hexD (numIn k n r).1 = (if k = 0 then [] else hexD n) ++ ds
  | [], k, n, _, h => absurd rfl h
  | b :: r, k, n, h0, h => by
    rw [numIn_cons] at h ⊢
    by_cases hb : b.toNat = 125
    · rw [if_pos hb] at h ⊢
      by_cases hk : k ≠ 0 ∧ numbered n = true
      · rw [if_pos hk]
        refine ⟨[], r, ?_, rfl, hk.2, ?_⟩
        · rw [List.nil_append, show b = 125 from UInt8.toNat_inj.1 (by rw [hb, brace_nat])]
        · rw [if_neg hk.1, List.append_nil]
      · rw [if_neg hk] at h
        exact absurd rfl h
    · rw [if_neg hb] at h ⊢
      cases hv : hexVal b with
      | none => rw [hv] at h; exact absurd rfl h
      | some d =>
        rw [hv] at h
        simp only at h ⊢
        obtain ⟨hd, rfl⟩ := hexVal_some hv
        by_cases hc : (k ≠ 0 ∧ n = 0) ∨ k = 6
        · rw [if_pos hc] at h; exact absurd rfl h
        · rw [if_neg hc] at h ⊢
          obtain ⟨ds, t, h1, h2, h3, h4⟩ := numIn_inv r (k + 1) (16 * n + d) (fun e => by omega) h
          refine ⟨hexDig d :: ds, t, by rw [h1]; rfl, ?_, h3, ?_⟩
          · rw [List.length_cons]
            exact h2.trans (by congr 1; omega)
          · rw [h4, if_neg (by omega)]
            by_cases hk : k = 0
            · have hn := h0 hk
              subst hk hn
              rw [if_pos rfl, Nat.mul_zero, Nat.zero_add, hex_small hd]
              rfl
            · have hn : n ≠ 0 := fun e => hc (.inl ⟨hk, e⟩)
              rw [if_neg hk, hex_big (by omega), show (16 * n + d) / 16 = n by omega, show (16 * n + d) % 16 = d by omega, List.append_assoc]
              rfl

theorem meantF_mem : ∀ {ss : List Nat} {ts : List UInt8} {c : Nat} {x : UInt8}, meantF ss ts x = some c → ∃ i, i < ss.length ∧ i < ts.length ∧ ss.getD i 0 = c ∧ ts.getD i 0 = x
  | [], _, c, x, h => by simp [meantF] at h
  | _ :: _, [], c, x, h => by simp [meantF] at h
  | s :: ss, t :: ts, c, x, h => by
    unfold meantF at h
    by_cases hs : t = x
    · rw [if_pos hs] at h
      exact ⟨0, by simp, by simp, Option.some.inj h, hs⟩
    · rw [if_neg hs] at h
      obtain ⟨i, h1, h2, h3, h4⟩ := meantF_mem h
      exact ⟨i + 1, by simpa using h1, by simpa using h2, by simpa using h3, by simpa using h4⟩
theorem tab_sign : ∀ i : Fin 43, isSign (tabS.getD i 0) = true ∧ 127 ≤ tabS.getD i 0 := by decide
theorem stands_meant {c : Nat} {x : UInt8} (h : meant x = some c) : stands c = some x ∧ isSign c = true ∧ 127 ≤ c := by
  obtain ⟨i, h1, _, h3, h4⟩ := meantF_mem h
  have h5 := stands_tab ⟨i, by rw [tab_len.1] at h1; exact h1⟩
  have h6 := tab_sign ⟨i, by rw [tab_len.1] at h1; exact h1⟩
  simp only at h5 h6
  rw [h3, h4] at h5
  rw [h3] at h6
  exact ⟨h5.1, h6⟩

/-- what is read as an escape is the sign's own -/
theorem step_inv {l : List UInt8} (h : (stepD l).2 ≠ 0) : isSign (stepD l).1 = true ∧ oneD (stepD l).1 ++ l.drop (stepD l).2 = l ∧ (stepD l).2 = (oneD (stepD l).1).length := by
  cases l with
  | nil => exact absurd rfl h
  | cons b r =>
    by_cases h1 : b.toNat = 64
    · have hb : b = 64 := UInt8.toNat_inj.1 h1
      subst hb
      rw [step_at r h1] at h ⊢
      cases r with
      | nil => exact absurd rfl h
      | cons x r =>
        rw [escIn_two] at h ⊢
        by_cases h2 : x.toNat = 64
        · have hx : x = 64 := UInt8.toNat_inj.1 h2
          subst hx
          rw [if_pos h2]
          exact ⟨by decide, rfl, rfl⟩
        · rw [if_neg h2] at h ⊢
          by_cases h3 : x.toNat = 123
          · have hx : x = 123 := UInt8.toNat_inj.1 h3
            subst hx
            rw [if_pos h3] at h ⊢
            obtain ⟨ds, t, e1, e2, e3, e4⟩ := numIn_inv r 0 0 (fun _ => rfl) h
            rw [if_pos rfl, List.nil_append] at e4
            have e3' := e3
            unfold numbered at e3'
            simp only [Bool.and_eq_true, Bool.not_eq_true', decide_eq_false_iff_not, Option.isNone_iff_eq_none] at e3'
            have e5 := oneD_num e3'.1.2 e3'.2
            have e6 : (numIn 0 0 r).2 = 3 + ds.length := by rw [e2, Nat.add_zero]
            refine ⟨e3'.1.1, ?_, ?_⟩
            · rw [e5, e6, e4, e1]
              simp only [List.cons_append, List.append_assoc, List.nil_append, show 3 + ds.length = (ds.length + 1) + 1 + 1 by omega, List.drop_succ_cons]
              rw [show (ds ++ 125 :: t).drop (ds.length + 1) = t by rw [← List.drop_drop, List.drop_left]; rfl]
            · rw [e5, e6, e4]
              simp only [List.length_cons, List.length_append, List.length_nil]
              omega
          · rw [if_neg h3] at h ⊢
            cases hm : meant x with
            | none => rw [hm] at h; exact absurd rfl h
            | some c =>
              obtain ⟨m1, m2, m3⟩ := stands_meant hm
              simp only
              rw [oneD_tab (by omega) m1]
              exact ⟨m2, rfl, rfl⟩
    · rw [step_other r h1] at h ⊢
      by_cases hp : plainB b = true
      · rw [if_pos hp]
        have hp' := plain_iff.1 hp
        simp only
        rw [oneD_plain h1 hp', UInt8.ofNat_toNat]
        exact ⟨isSign_iff.2 ⟨by omega, by omega⟩, rfl, rfl⟩
      · rw [if_neg hp] at h
        exact absurd rfl h

theorem unF_enough : ∀ (k : Nat) (l : List UInt8), l.length ≤ k → unF k l = unF l.length l
  | k, [], _ => by cases k <;> rfl
  | 0, b :: r, h => by simp at h
  | k + 1, b :: r, h => by
    have hk : r.length ≤ k := by simpa using h
    show unF (k + 1) (b :: r) = unF (r.length + 1) (b :: r)
    unfold unF
    by_cases hn : (stepD (b :: r)).2 = 0
    · rw [if_pos hn, if_pos hn]
    · rw [if_neg hn, if_neg hn]
      have hd : ((b :: r).drop (stepD (b :: r)).2).length ≤ r.length := by rw [List.length_drop, List.length_cons]; omega
      rw [unF_enough k _ (by omega), unF_enough r.length _ hd]
theorem unD_nil : unD [] = some [] := rfl
theorem unD_step {l : List UInt8} (hl : l ≠ []) : unD l = if (stepD l).2 = 0 then none else (unD (l.drop (stepD l).2)).map (bytesD (stepD l).1 ++ ·) := by
  cases l with
  | nil => exact absurd rfl hl
  | cons b r =>
    show unF (r.length + 1) (b :: r) = _
    rw [unF]
    by_cases hn : (stepD (b :: r)).2 = 0
    · rw [if_pos hn, if_pos hn]
    · rw [if_neg hn, if_neg hn]
      have hd : ((b :: r).drop (stepD (b :: r)).2).length ≤ r.length := by rw [List.length_drop, List.length_cons]; omega
      rw [unF_enough r.length _ hd]
      rfl
theorem un_cons {c : Nat} (h : isSign c = true) (r : List UInt8) : unD (oneD c ++ r) = (unD r).map (bytesD c ++ ·) := by
  have hp := one_pos c
  have hne : oneD c ++ r ≠ [] := fun e => by
    have := congrArg List.length e
    rw [List.length_append, List.length_nil] at this
    omega
  rw [unD_step hne, step_one h r]
  simp only
  rw [if_neg (by omega), List.drop_left]
/-- P7.3: the escapes of signs are read back as their bytes -/
theorem un_esc : ∀ {cs : List Nat}, (∀ c ∈ cs, isSign c = true) → unD (escD cs) = some (textD cs)
  | [], _ => rfl
  | c :: t, h => by
    show unD (oneD c ++ escD t) = _
    rw [un_cons (h c (by simp)), un_esc (fun d hd => h d (by simp [hd]))]
    rfl
theorem un_inv : ∀ {l u : List UInt8}, unD l = some u → ∃ cs : List Nat, (∀ c ∈ cs, isSign c = true) ∧ escD cs = l ∧ textD cs = u
  | [], u, h => by
    rw [unD_nil] at h
    cases h
    exact ⟨[], fun c hc => absurd hc (by simp), rfl, rfl⟩
  | b :: r, u, h => by
    rw [unD_step (by simp)] at h
    by_cases hn : (stepD (b :: r)).2 = 0
    · rw [if_pos hn] at h; cases h
    · rw [if_neg hn] at h
      obtain ⟨h1, h2, h3⟩ := step_inv hn
      cases ht : unD ((b :: r).drop (stepD (b :: r)).2) with
      | none => rw [ht] at h; cases h
      | some t =>
        rw [ht] at h
        obtain ⟨cs, i1, i2, i3⟩ := un_inv ht
        refine ⟨(stepD (b :: r)).1 :: cs, fun c hc => ?_, ?_, ?_⟩
        · rcases List.mem_cons.1 hc with rfl | hc
          · exact h1
          · exact i1 c hc
        · show oneD _ ++ escD cs = _
          rw [i2, h2]
        · show bytesD _ ++ textD cs = _
          rw [i3]
          exact Option.some.inj h
termination_by l => l.length
decreasing_by
  rw [List.length_drop]
  simp only [List.length_cons]
  omega

theorem esc_append (a b : List Nat) : escD (a ++ b) = escD a ++ escD b := by
  induction a with
  | nil => rfl
  | cons c t ih => show oneD c ++ escD (t ++ b) = (oneD c ++ escD t) ++ escD b; rw [ih, List.append_assoc]
theorem esc_plain : ∀ {cs : List Nat}, (∀ c ∈ cs, isSign c = true) → ∀ b ∈ escD cs, plainB b = true
  | [], _, b, hb => absurd hb (by simp [escD])
  | c :: t, h, b, hb => by
    rcases List.mem_append.1 (show b ∈ oneD c ++ escD t from hb) with hb | hb
    · exact one_plain (h c (by simp)) b hb
    · exact esc_plain (fun d hd => h d (by simp [hd])) b hb
theorem esc_le : ∀ {cs : List Nat}, (∀ c ∈ cs, isSign c = true) → (escD cs).length ≤ 9 * (textD cs).length
  | [], _ => Nat.le_refl _
  | c :: t, h => by
    have h1 := one_le (h c (by simp))
    have h2 := esc_le (cs := t) (fun d hd => h d (by simp [hd]))
    show (oneD c ++ escD t).length ≤ 9 * (bytesD c ++ textD t).length
    rw [List.length_append, List.length_append]
    omega
theorem un_len {l u : List UInt8} (h : unD l = some u) : u.length ≤ 4 * l.length := by
  obtain ⟨cs, h1, rfl, rfl⟩ := un_inv h
  clear h h1
  induction cs with
  | nil => exact Nat.zero_le _
  | cons c t ih =>
    show (bytesD c ++ textD t).length ≤ 4 * (oneD c ++ escD t).length
    have h1 := bytes_le c
    have h2 := one_pos c
    rw [List.length_append, List.length_append]
    omega
end Go.Proofs.YtcdjilipmjjjkaaDoor
