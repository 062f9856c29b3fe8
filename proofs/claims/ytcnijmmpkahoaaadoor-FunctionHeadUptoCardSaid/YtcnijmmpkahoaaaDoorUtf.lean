/-
  Signs and their bytes (UTF-8), as plain functions. Nothing is claimed here by itself.
-/
namespace Go.Proofs.YtcnijmmpkahoaaaDoor

theorem u8_nat {n : Nat} (h : n < 256) : (UInt8.ofNat n).toNat = n := by
  rw [UInt8.toNat_ofNat']
  exact Nat.mod_eq_of_lt h
theorem u8_eq {b : UInt8} {n : Nat} (h : b.toNat = n) : UInt8.ofNat n = b := by
  subst h
  exact UInt8.ofNat_toNat
theorem u8_lt (b : UInt8) : b.toNat < 256 := b.toNat_lt

/-- a byte that goes on with a sign -/
def goesOn (b : UInt8) : Bool := decide (128 ≤ b.toNat ∧ b.toNat < 192)
/-- a number that is a sign -/
def isSign (c : Nat) : Bool := decide (c ≤ 1114111 ∧ ¬ (55296 ≤ c ∧ c ≤ 57343))
/-- n more bytes that go on with the sign c -/
def more : Nat → Nat → List UInt8 → Option Nat
  | 0, c, _ => some c
  | _ + 1, _, [] => none
  | n + 1, c, b :: r => if goesOn b then more n (64 * c + (b.toNat - 128)) r else none
/-- a sign of n bytes, least the least one that wants so many -/
def many (n least c : Nat) (r : List UInt8) : Nat × Nat :=
  match more (n - 1) c r with
  | some d => if least ≤ d ∧ isSign d = true then (d, n) else (0, 0)
  | none => (0, 0)
/-- the sign that stands first, and how many bytes it takes (0: there is none) -/
def nextD : List UInt8 → Nat × Nat
  | [] => (0, 0)
  | b :: r =>
    if b.toNat < 128 then (b.toNat, 1)
    else if b.toNat < 192 then (0, 0)
    else if b.toNat < 224 then many 2 128 (b.toNat - 192) r
    else if b.toNat < 240 then many 3 2048 (b.toNat - 224) r
    else if b.toNat < 248 then many 4 65536 (b.toNat - 240) r
    else (0, 0)
/-- a sign's bytes (none, if it is none) -/
def bytesD (c : Nat) : List UInt8 :=
  if isSign c = true then
    if c < 128 then [UInt8.ofNat c]
    else if c < 2048 then [UInt8.ofNat (192 + c / 64), UInt8.ofNat (128 + c % 64)]
    else if c < 65536 then [UInt8.ofNat (224 + c / 4096), UInt8.ofNat (128 + c / 64 % 64), UInt8.ofNat (128 + c % 64)]
    else [UInt8.ofNat (240 + c / 262144), UInt8.ofNat (128 + c / 4096 % 64), UInt8.ofNat (128 + c / 64 % 64), UInt8.ofNat (128 + c % 64)]
  else []

theorem isSign_iff {c : Nat} : isSign c = true ↔ c ≤ 1114111 ∧ ¬ (55296 ≤ c ∧ c ≤ 57343) := by simp only [isSign, decide_eq_true_eq]
theorem goesOn_iff {b : UInt8} : goesOn b = true ↔ 128 ≤ b.toNat ∧ b.toNat < 192 := by simp only [goesOn, decide_eq_true_eq]

theorem nextD_cons (b : UInt8) (r : List UInt8) : nextD (b :: r) =
    if b.toNat < 128 then (b.toNat, 1)
    else if b.toNat < 192 then (0, 0)
    else if b.toNat < 224 then many 2 128 (b.toNat - 192) r
    else if b.toNat < 240 then many 3 2048 (b.toNat - 224) r
    else if b.toNat < 248 then many 4 65536 (b.toNat - 240) r
    else (0, 0) := rfl
theorem next_one {b : UInt8} {r : List UInt8} (h : b.toNat < 128) : nextD (b :: r) = (b.toNat, 1) := by
  rw [nextD_cons, if_pos h]
theorem next_two {b x : UInt8} {r : List UInt8} {c : Nat} (h0 : 192 ≤ b.toNat) (h1 : b.toNat < 224) (hx : goesOn x = true) (hc : c = 64 * (b.toNat - 192) + (x.toNat - 128)) (hl : 128 ≤ c) : nextD (b :: x :: r) = (c, 2) := by
  have h := goesOn_iff.1 hx
  rw [nextD_cons, if_neg (by omega), if_neg (by omega), if_pos h1]
  simp only [many, Nat.add_one_sub_one, more, hx, if_true]
  rw [← hc, if_pos ⟨hl, isSign_iff.2 ⟨by omega, by omega⟩⟩]
theorem next_three {b x y : UInt8} {r : List UInt8} {c : Nat} (h0 : 224 ≤ b.toNat) (h1 : b.toNat < 240) (hx : goesOn x = true) (hy : goesOn y = true) (hc : c = 64 * (64 * (b.toNat - 224) + (x.toNat - 128)) + (y.toNat - 128)) (hl : 2048 ≤ c) (hs : isSign c = true) : nextD (b :: x :: y :: r) = (c, 3) := by
  rw [nextD_cons, if_neg (by omega), if_neg (by omega), if_neg (by omega), if_pos h1]
  simp only [many, Nat.add_one_sub_one, more, hx, hy, if_true]
  rw [← hc, if_pos ⟨hl, hs⟩]
theorem next_four {b x y z : UInt8} {r : List UInt8} {c : Nat} (h0 : 240 ≤ b.toNat) (h1 : b.toNat < 248) (hx : goesOn x = true) (hy : goesOn y = true) (hz : goesOn z = true) (hc : c = 64 * (64 * (64 * (b.toNat - 240) + (x.toNat - 128)) + (y.toNat - 128)) + (z.toNat - 128)) (hl : 65536 ≤ c) (hs : isSign c = true) : nextD (b :: x :: y :: z :: r) = (c, 4) := by
  rw [nextD_cons, if_neg (by omega), if_neg (by omega), if_neg (by omega), if_neg (by omega), if_pos h1]
  simp only [many, Nat.add_one_sub_one, more, hx, hy, hz, if_true]
  rw [← hc, if_pos ⟨hl, hs⟩]

theorem goes_of {n : Nat} (h : n < 64) : goesOn (UInt8.ofNat (128 + n)) = true := by
  rw [goesOn_iff, u8_nat (by omega)]
  omega

/-- a sign's bytes are read as the sign, whatever follows -/
theorem next_bytes {c : Nat} (h : isSign c = true) (r : List UInt8) : nextD (bytesD c ++ r) = (c, (bytesD c).length) := by
  have hs := isSign_iff.1 h
  unfold bytesD
  rw [if_pos h]
  split
  · rename_i h1
    rw [List.cons_append, next_one (by rw [u8_nat (by omega)]; exact h1), u8_nat (by omega)]
    rfl
  · split
    · rename_i h1 h2
      exact next_two (by rw [u8_nat (by omega)]; omega) (by rw [u8_nat (by omega)]; omega) (goes_of (by omega)) (by rw [u8_nat (by omega), u8_nat (by omega)]; omega) (by omega)
    · split
      · rename_i h1 h2 h3
        exact next_three (by rw [u8_nat (by omega)]; omega) (by rw [u8_nat (by omega)]; omega) (goes_of (by omega)) (goes_of (by omega)) (by rw [u8_nat (by omega), u8_nat (by omega), u8_nat (by omega)]; omega) (by omega) h
      · rename_i h1 h2 h3
        exact next_four (by rw [u8_nat (by omega)]; omega) (by rw [u8_nat (by omega)]; omega) (goes_of (by omega)) (goes_of (by omega)) (goes_of (by omega)) (by rw [u8_nat (by omega), u8_nat (by omega), u8_nat (by omega), u8_nat (by omega)]; omega) (by omega) h

theorem bytes_pos {c : Nat} (h : isSign c = true) : 1 ≤ (bytesD c).length := by
  unfold bytesD
  rw [if_pos h]
  split
  · simp
  · split
    · simp
    · split <;> simp
theorem bytes_le (c : Nat) : (bytesD c).length ≤ 4 := by
  unfold bytesD
  split
  · split
    · simp
    · split
      · simp
      · split <;> simp
  · simp

theorem many_not {n least c : Nat} {r : List UInt8} (h : (many n least c r).2 ≠ 0) : ∃ d, more (n - 1) c r = some d ∧ least ≤ d ∧ isSign d = true ∧ many n least c r = (d, n) := by
  unfold many at h ⊢
  cases hm : more (n - 1) c r with
  | none => rw [hm] at h; exact absurd rfl h
  | some d =>
    rw [hm] at h
    simp only at h ⊢
    by_cases hd : least ≤ d ∧ isSign d = true
    · exact ⟨d, rfl, hd.1, hd.2, by rw [if_pos hd]⟩
    · rw [if_neg hd] at h; exact absurd rfl h
theorem more_some {n c d : Nat} {r : List UInt8} (h : more (n + 1) c r = some d) : ∃ b t, r = b :: t ∧ goesOn b = true ∧ more n (64 * c + (b.toNat - 128)) t = some d := by
  cases r with
  | nil => exact absurd h (by simp [more])
  | cons b t =>
    unfold more at h
    by_cases hb : goesOn b = true
    · rw [if_pos hb] at h; exact ⟨b, t, rfl, hb, h⟩
    · rw [if_neg hb] at h; cases h
theorem more_nil {c d : Nat} {r : List UInt8} (h : more 0 c r = some d) : d = c := by
  unfold more at h
  exact (Option.some.inj h).symm

/-- what is read as a sign is its bytes -/
theorem next_inv {l : List UInt8} (h : (nextD l).2 ≠ 0) : isSign (nextD l).1 = true ∧ bytesD (nextD l).1 ++ l.drop (nextD l).2 = l ∧ (nextD l).2 = (bytesD (nextD l).1).length := by
  cases l with
  | nil => exact absurd rfl h
  | cons b r =>
    have hb := u8_lt b
    rw [nextD_cons] at h ⊢
    by_cases h1 : b.toNat < 128
    · rw [if_pos h1]
      have hs : isSign b.toNat = true := isSign_iff.2 ⟨by omega, by omega⟩
      have hB : bytesD b.toNat = [b] := by unfold bytesD; rw [if_pos hs, if_pos h1, UInt8.ofNat_toNat]
      simp only [hB]
      exact ⟨hs, rfl, rfl⟩
    · rw [if_neg h1] at h ⊢
      by_cases h2 : b.toNat < 192
      · rw [if_pos h2] at h; exact absurd rfl h
      · rw [if_neg h2] at h ⊢
        by_cases h3 : b.toNat < 224
        · rw [if_pos h3] at h ⊢
          obtain ⟨d, hm, hl, hs, he⟩ := many_not h
          rw [he]
          obtain ⟨x, t, rfl, hx, hm⟩ := more_some hm
          have hd := more_nil hm
          have gx := goesOn_iff.1 hx
          have hB : bytesD d = [b, x] := by
            unfold bytesD
            rw [if_pos hs, if_neg (by omega), if_pos (by omega), u8_eq (b := b) (by omega), u8_eq (b := x) (by omega)]
          simp only [hB]
          exact ⟨hs, rfl, rfl⟩
        · rw [if_neg h3] at h ⊢
          by_cases h4 : b.toNat < 240
          · rw [if_pos h4] at h ⊢
            obtain ⟨d, hm, hl, hs, he⟩ := many_not h
            rw [he]
            obtain ⟨x, t, rfl, hx, hm⟩ := more_some hm
            obtain ⟨y, t, rfl, hy, hm⟩ := more_some hm
            have hd := more_nil hm
            have gx := goesOn_iff.1 hx
            have gy := goesOn_iff.1 hy
            have hB : bytesD d = [b, x, y] := by
              unfold bytesD
              rw [if_pos hs, if_neg (by omega), if_neg (by omega), if_pos (by omega), u8_eq (b := b) (by omega), u8_eq (b := x) (by omega), u8_eq (b := y) (by omega)]
            simp only [hB]
            exact ⟨hs, rfl, rfl⟩
          · rw [if_neg h4] at h ⊢
            by_cases h5 : b.toNat < 248
            · rw [if_pos h5] at h ⊢
              obtain ⟨d, hm, hl, hs, he⟩ := many_not h
              rw [he]
              obtain ⟨x, t, rfl, hx, hm⟩ := more_some hm
              obtain ⟨y, t, rfl, hy, hm⟩ := more_some hm
              obtain ⟨z, t, rfl, hz, hm⟩ := more_some hm
              have hd := more_nil hm
              have gx := goesOn_iff.1 hx
              have gy := goesOn_iff.1 hy
              have gz := goesOn_iff.1 hz
              have hB : bytesD d = [b, x, y, z] := by
                unfold bytesD
                rw [if_pos hs, if_neg (by omega), if_neg (by omega), if_neg (by omega), u8_eq (b := b) (by omega), u8_eq (b := x) (by omega), u8_eq (b := y) (by omega), u8_eq (b := z) (by omega)]
              simp only [hB]
              exact ⟨hs, rfl, rfl⟩
            · rw [if_neg h5] at h; exact absurd rfl h

/-- a text's signs, read with so much breath -/
def signsF : Nat → List UInt8 → Option (List Nat)
  | _, [] => some []
  | 0, _ :: _ => none
  | k + 1, b :: r => if (nextD (b :: r)).2 = 0 then none else (signsF k ((b :: r).drop (nextD (b :: r)).2)).map ((nextD (b :: r)).1 :: ·)
/-- a text's signs; none: it is not right -/
def signsD (l : List UInt8) : Option (List Nat) := signsF l.length l
/-- the bytes of signs -/
def textD : List Nat → List UInt8
  | [] => []
  | c :: t => bytesD c ++ textD t

theorem signsF_enough : ∀ (k : Nat) (l : List UInt8), l.length ≤ k → signsF k l = signsF l.length l
  | k, [], _ => by cases k <;> rfl
  | 0, b :: r, h => by simp at h
  | k + 1, b :: r, h => by
    have hk : r.length ≤ k := by simpa using h
    show signsF (k + 1) (b :: r) = signsF (r.length + 1) (b :: r)
    unfold signsF
    by_cases hn : (nextD (b :: r)).2 = 0
    · rw [if_pos hn, if_pos hn]
    · rw [if_neg hn, if_neg hn]
      have hd : ((b :: r).drop (nextD (b :: r)).2).length ≤ r.length := by rw [List.length_drop, List.length_cons]; omega
      rw [signsF_enough k _ (by omega), signsF_enough r.length _ hd]
theorem signsD_nil : signsD [] = some [] := rfl
theorem signsD_step {l : List UInt8} (hl : l ≠ []) : signsD l = if (nextD l).2 = 0 then none else (signsD (l.drop (nextD l).2)).map ((nextD l).1 :: ·) := by
  cases l with
  | nil => exact absurd rfl hl
  | cons b r =>
    show signsF (r.length + 1) (b :: r) = _
    rw [signsF]
    by_cases hn : (nextD (b :: r)).2 = 0
    · rw [if_pos hn, if_pos hn]
    · rw [if_neg hn, if_neg hn]
      have hd : ((b :: r).drop (nextD (b :: r)).2).length ≤ r.length := by rw [List.length_drop, List.length_cons]; omega
      rw [signsF_enough r.length _ hd]
      rfl
theorem signs_cons {c : Nat} (h : isSign c = true) (r : List UInt8) : signsD (bytesD c ++ r) = (signsD r).map (c :: ·) := by
  have hn := next_bytes h r
  have hp := bytes_pos h
  have hne : bytesD c ++ r ≠ [] := fun e => by
    have := congrArg List.length e
    rw [List.length_append, List.length_nil] at this
    omega
  rw [signsD_step hne, hn]
  simp only
  rw [if_neg (by omega), List.drop_left]

/-- signs' bytes are read as the signs -/
theorem signs_text : ∀ {cs : List Nat}, (∀ c ∈ cs, isSign c = true) → ∀ (r : List UInt8), signsD (textD cs ++ r) = (signsD r).map (cs ++ ·)
  | [], _, r => by
    show signsD r = _
    cases signsD r <;> rfl
  | c :: t, h, r => by
    show signsD ((bytesD c ++ textD t) ++ r) = _
    rw [List.append_assoc, signs_cons (h c (by simp)), signs_text (fun d hd => h d (by simp [hd]))]
    cases signsD r <;> rfl
theorem signs_of {cs : List Nat} (h : ∀ c ∈ cs, isSign c = true) : signsD (textD cs) = some cs := by
  have := signs_text h []
  rw [List.append_nil, signsD_nil] at this
  rw [this]
  simp
/-- a text that is read as signs is their bytes -/
theorem signs_inv : ∀ {l : List UInt8} {cs : List Nat}, signsD l = some cs → (∀ c ∈ cs, isSign c = true) ∧ textD cs = l
  | [], cs, h => by
    rw [signsD_nil] at h
    cases h
    exact ⟨fun c hc => absurd hc (by simp), rfl⟩
  | b :: r, cs, h => by
    rw [signsD_step (by simp)] at h
    by_cases hn : (nextD (b :: r)).2 = 0
    · rw [if_pos hn] at h; cases h
    · rw [if_neg hn] at h
      obtain ⟨h1, h2, h3⟩ := next_inv hn
      cases ht : signsD ((b :: r).drop (nextD (b :: r)).2) with
      | none => rw [ht] at h; cases h
      | some t =>
        rw [ht] at h
        obtain ⟨i1, i2⟩ := signs_inv ht
        have hcs : (nextD (b :: r)).1 :: t = cs := Option.some.inj h
        subst hcs
        refine ⟨fun c hc => ?_, ?_⟩
        · rcases List.mem_cons.1 hc with rfl | hc
          · exact h1
          · exact i1 c hc
        · show bytesD _ ++ textD t = _
          rw [i2, h2]
  termination_by l => l.length
  decreasing_by
  rw [List.length_drop]
  simp only [List.length_cons]
  omega

theorem text_append (a b : List Nat) : textD (a ++ b) = textD a ++ textD b := by
  induction a with
  | nil => rfl
  | cons c t ih => show bytesD c ++ textD (t ++ b) = (bytesD c ++ textD t) ++ textD b; rw [ih, List.append_assoc]
/-- two texts, the first one right -/
theorem signs_append {a b : List UInt8} {cs : List Nat} (h : signsD a = some cs) : signsD (a ++ b) = (signsD b).map (cs ++ ·) := by
  obtain ⟨h1, rfl⟩ := signs_inv h
  exact signs_text h1 b
theorem signs_len {l : List UInt8} {cs : List Nat} (h : signsD l = some cs) : cs.length ≤ l.length := by
  obtain ⟨h1, rfl⟩ := signs_inv h
  clear h
  induction cs with
  | nil => simp
  | cons c t ih =>
    have := bytes_pos (h1 c (by simp))
    have := ih (fun d hd => h1 d (by simp [hd]))
    show t.length + 1 ≤ (bytesD c ++ textD t).length
    rw [List.length_append]
    omega
end Go.Proofs.YtcnijmmpkahoaaaDoor
