/-
  Names, as plain functions on bytes. Nothing is claimed here by itself.
-/
import Derived.Test.YtcnijmmpkahoaaaDoorRunes
namespace Go.Proofs.YtcnijmmpkahoaaaDoor
set_option linter.unusedSimpArgs false
set_option maxRecDepth 10000

/-- a sign that begins a name -/
def begC (c : Nat) : Bool := decide ((65 ≤ c ∧ c ≤ 90) ∨ (97 ≤ c ∧ c ≤ 122) ∨ c = 95 ∨ c = 8710 ∨ c = 9049)
/-- a sign that goes on with a name, and begins none -/
def digC (c : Nat) : Bool := decide ((48 ≤ c ∧ c ≤ 57) ∨ c = 175)
/-- a byte that is a sign that begins a name -/
def begB (b : UInt8) : Bool := decide ((65 ≤ b.toNat ∧ b.toNat ≤ 90) ∨ (97 ≤ b.toNat ∧ b.toNat ≤ 122) ∨ b.toNat = 95)
def digB (b : UInt8) : Bool := decide (48 ≤ b.toNat ∧ b.toNat ≤ 57)
/-- how many bytes the sign has that stands first and begins a name -/
def begW (l : List UInt8) : Nat :=
  if l.take 3 = [226, 136, 134] ∨ l.take 3 = [226, 141, 153] then 3 else if begB (l.headD 0) = true then 1 else 0
/-- .. that goes on with a name -/
def goW (l : List UInt8) : Nat := if digB (l.headD 0) = true then 1 else if l.take 2 = [194, 175] then 2 else begW l

theorem begB_iff {b : UInt8} : begB b = true ↔ (65 ≤ b.toNat ∧ b.toNat ≤ 90) ∨ (97 ≤ b.toNat ∧ b.toNat ≤ 122) ∨ b.toNat = 95 := by simp only [begB, decide_eq_true_eq]
theorem digB_iff {b : UInt8} : digB b = true ↔ 48 ≤ b.toNat ∧ b.toNat ≤ 57 := by simp only [digB, decide_eq_true_eq]
theorem begC_iff {c : Nat} : begC c = true ↔ (65 ≤ c ∧ c ≤ 90) ∨ (97 ≤ c ∧ c ≤ 122) ∨ c = 95 ∨ c = 8710 ∨ c = 9049 := by simp only [begC, decide_eq_true_eq]
theorem digC_iff {c : Nat} : digC c = true ↔ (48 ≤ c ∧ c ≤ 57) ∨ c = 175 := by simp only [digC, decide_eq_true_eq]

theorem beg_byte {b : UInt8} (h : begB b = true) (r : List UInt8) : begW (b :: r) = 1 ∧ goW (b :: r) = 1 := by
  have hb := begB_iff.1 h
  have h226 : b ≠ 226 := fun e => by subst e; revert hb; decide
  have h194 : b ≠ 194 := fun e => by subst e; revert hb; decide
  have h1 : begW (b :: r) = 1 := by
    unfold begW
    rw [if_neg (by simp [h226]), if_pos (by simpa using h)]
  refine ⟨h1, ?_⟩
  unfold goW
  rw [if_neg (by simp only [List.headD_cons, digB_iff]; omega), if_neg (by simp [h194]), h1]
theorem beg_del (r : List UInt8) : begW (226 :: 136 :: 134 :: r) = 3 ∧ goW (226 :: 136 :: 134 :: r) = 3 := by
  have h1 : begW (226 :: 136 :: 134 :: r) = 3 := by unfold begW; rw [if_pos (by simp)]
  refine ⟨h1, ?_⟩
  unfold goW
  rw [if_neg (by simp only [List.headD_cons]; decide), if_neg (by simp), h1]
theorem beg_und (r : List UInt8) : begW (226 :: 141 :: 153 :: r) = 3 ∧ goW (226 :: 141 :: 153 :: r) = 3 := by
  have h1 : begW (226 :: 141 :: 153 :: r) = 3 := by unfold begW; rw [if_pos (by simp)]
  refine ⟨h1, ?_⟩
  unfold goW
  rw [if_neg (by simp only [List.headD_cons]; decide), if_neg (by simp), h1]
theorem go_dig {b : UInt8} (h : digB b = true) (r : List UInt8) : goW (b :: r) = 1 := by
  unfold goW
  rw [if_pos (by simpa using h)]
theorem go_over (r : List UInt8) : goW (194 :: 175 :: r) = 2 := by
  unfold goW
  rw [if_neg (by simp only [List.headD_cons]; decide), if_pos (by simp)]

theorem take3 {l : List UInt8} {a b c : UInt8} (h : l.take 3 = [a, b, c]) : ∃ r, l = a :: b :: c :: r := by
  rcases l with _ | ⟨x, _ | ⟨y, _ | ⟨z, r⟩⟩⟩ <;> simp at h
  obtain ⟨rfl, rfl, rfl⟩ := h
  exact ⟨r, rfl⟩
theorem take2 {l : List UInt8} {a b : UInt8} (h : l.take 2 = [a, b]) : ∃ r, l = a :: b :: r := by
  rcases l with _ | ⟨x, _ | ⟨y, r⟩⟩ <;> simp at h
  obtain ⟨rfl, rfl⟩ := h
  exact ⟨r, rfl⟩

/-- what begins a name: its forms -/
theorem beg_cases (l : List UInt8) : begW l = 0 ∨ (∃ b r, l = b :: r ∧ begB b = true) ∨ (∃ r, l = 226 :: 136 :: 134 :: r) ∨ (∃ r, l = 226 :: 141 :: 153 :: r) := by
  by_cases h3 : l.take 3 = [226, 136, 134] ∨ l.take 3 = [226, 141, 153]
  · rcases h3 with h | h
    · exact .inr (.inr (.inl (take3 h)))
    · exact .inr (.inr (.inr (take3 h)))
  · by_cases hb : begB (l.headD 0) = true
    · rcases l with _ | ⟨b, r⟩
      · exact absurd hb (by decide)
      · exact .inr (.inl ⟨b, r, rfl, by simpa using hb⟩)
    · left
      unfold begW
      rw [if_neg h3, if_neg hb]
theorem go_cases (l : List UInt8) : goW l = 0 ∧ begW l = 0 ∨ (∃ b r, l = b :: r ∧ digB b = true) ∨ (∃ r, l = 194 :: 175 :: r) ∨ (∃ b r, l = b :: r ∧ begB b = true) ∨ (∃ r, l = 226 :: 136 :: 134 :: r) ∨ (∃ r, l = 226 :: 141 :: 153 :: r) := by
  by_cases hd : digB (l.headD 0) = true
  · rcases l with _ | ⟨b, r⟩
    · exact absurd hd (by decide)
    · exact .inr (.inl ⟨b, r, rfl, by simpa using hd⟩)
  · by_cases h2 : l.take 2 = [194, 175]
    · exact .inr (.inr (.inl (take2 h2)))
    · rcases beg_cases l with h | h
      · left
        refine ⟨?_, h⟩
        unfold goW
        rw [if_neg hd, if_neg h2, h]
      · exact .inr (.inr (.inr h))

/-- the bytes of one sign of a name -/
def SignOf (p : List UInt8) : Prop := p ≠ [] ∧ ∀ r, goW (p ++ r) = p.length
theorem go_sign_of {l : List UInt8} (h : goW l ≠ 0) : SignOf (l.take (goW l)) ∧ (l.take (goW l)).length = goW l := by
  rcases go_cases l with h0 | ⟨b, r, rfl, hb⟩ | ⟨r, rfl⟩ | ⟨b, r, rfl, hb⟩ | ⟨r, rfl⟩ | ⟨r, rfl⟩
  · exact absurd h0.1 h
  · rw [go_dig hb]; exact ⟨⟨by simp, fun r => go_dig hb r⟩, rfl⟩
  · rw [go_over]; exact ⟨⟨by simp, fun r => go_over r⟩, rfl⟩
  · rw [(beg_byte hb r).2]; exact ⟨⟨by simp, fun r => (beg_byte hb r).2⟩, rfl⟩
  · rw [(beg_del r).2]; exact ⟨⟨by simp, fun r => (beg_del r).2⟩, rfl⟩
  · rw [(beg_und r).2]; exact ⟨⟨by simp, fun r => (beg_und r).2⟩, rfl⟩
theorem beg_go {l : List UInt8} (h : begW l ≠ 0) : goW l = begW l ∧ ∀ r, begW (l ++ r) = begW l := by
  rcases beg_cases l with h0 | ⟨b, r, rfl, hb⟩ | ⟨r, rfl⟩ | ⟨r, rfl⟩
  · exact absurd h0 h
  · exact ⟨by rw [(beg_byte hb r).1, (beg_byte hb r).2], fun r' => by rw [List.cons_append, (beg_byte hb _).1, (beg_byte hb _).1]⟩
  · exact ⟨by rw [(beg_del r).1, (beg_del r).2], fun r' => by simp only [List.cons_append]; rw [(beg_del _).1, (beg_del _).1]⟩
  · exact ⟨by rw [(beg_und r).1, (beg_und r).2], fun r' => by simp only [List.cons_append]; rw [(beg_und _).1, (beg_und _).1]⟩
theorem beg_take {l : List UInt8} (h : begW l ≠ 0) {m : Nat} (hm : begW l ≤ m) : begW (l.take m) = begW l := by
  rcases beg_cases l with h0 | ⟨b, r, rfl, hb⟩ | ⟨r, rfl⟩ | ⟨r, rfl⟩
  · exact absurd h0 h
  · rw [(beg_byte hb r).1] at hm ⊢
    obtain ⟨k, rfl⟩ : ∃ k, m = k + 1 := ⟨m - 1, by omega⟩
    rw [List.take_succ_cons, (beg_byte hb _).1]
  · rw [(beg_del r).1] at hm ⊢
    obtain ⟨k, rfl⟩ : ∃ k, m = k + 3 := ⟨m - 3, by omega⟩
    simp only [List.take_succ_cons]
    rw [(beg_del _).1]
  · rw [(beg_und r).1] at hm ⊢
    obtain ⟨k, rfl⟩ : ∃ k, m = k + 3 := ⟨m - 3, by omega⟩
    simp only [List.take_succ_cons]
    rw [(beg_und _).1]
theorem go_le (l : List UInt8) : goW l ≤ l.length := by
  by_cases h : goW l = 0
  · omega
  · have h1 := (go_sign_of h).2
    rw [List.length_take] at h1
    omega
theorem beg_nil : begW [] = 0 := by decide
theorem go_nil : goW [] = 0 := by decide

/-! ### signs as a range tells them, and by their bytes -/
theorem rune_byte {b : UInt8} (h : b.toNat < 128) (r : List UInt8) : runeD (b :: r) = (b.toNat, 1) := runeD_of (next_one h) (by omega)
theorem rune_del (r : List UInt8) : runeD (226 :: 136 :: 134 :: r) = (8710, 3) := runeD_of (next_bytes (c := 8710) (by decide) r) (by decide)
theorem rune_und (r : List UInt8) : runeD (226 :: 141 :: 153 :: r) = (9049, 3) := runeD_of (next_bytes (c := 9049) (by decide) r) (by decide)
theorem rune_over (r : List UInt8) : runeD (194 :: 175 :: r) = (175, 2) := runeD_of (next_bytes (c := 175) (by decide) r) (by decide)
theorem byte_of {c : Nat} (hc : c < 128) : bytesD c = [UInt8.ofNat c] := by
  unfold bytesD
  rw [if_pos (isSign_iff.2 ⟨by omega, by omega⟩), if_pos hc]
/-- the sign that a range tells, by its bytes -/
theorem rune_inv {l : List UInt8} {c : Nat} (hc : c ≠ 65533) (h : (runeD l).1 = c) : l = bytesD c ++ l.drop (runeD l).2 := by
  unfold runeD at h ⊢
  by_cases hn : (nextD l).2 = 0
  · rw [if_pos hn] at h; exact absurd h.symm hc
  · rw [if_neg hn] at h ⊢
    have := (next_inv hn).2.1
    rw [h] at this
    exact this.symm
theorem rune_low {l : List UInt8} {c : Nat} (hc : c < 128) (h : (runeD l).1 = c) : ∃ r, l = UInt8.ofNat c :: r := by
  have := rune_inv (by omega) h
  rw [byte_of hc] at this
  exact ⟨_, this⟩
theorem beg_rune (l : List UInt8) : begC (runeD l).1 = decide (begW l ≠ 0) := by
  rw [Bool.eq_iff_iff, decide_eq_true_eq, begC_iff]
  constructor
  · intro h
    have low : ∀ c, c < 128 → (runeD l).1 = c → ((65 ≤ c ∧ c ≤ 90) ∨ (97 ≤ c ∧ c ≤ 122) ∨ c = 95) → begW l ≠ 0 := fun c hc e hb => by
      obtain ⟨r, rfl⟩ := rune_low hc e
      rw [(beg_byte (begB_iff.2 (by rw [u8_nat (by omega)]; exact hb)) r).1]
      decide
    rcases h with h | h | h | h | h
    · exact low _ (by omega) rfl (.inl h)
    · exact low _ (by omega) rfl (.inr (.inl h))
    · exact low _ (by omega) rfl (.inr (.inr h))
    · have := rune_inv (by decide) h
      rw [show bytesD 8710 = [226, 136, 134] by decide] at this
      rw [this]
      exact (beg_del _).1 ▸ (by decide)
    · have := rune_inv (by decide) h
      rw [show bytesD 9049 = [226, 141, 153] by decide] at this
      rw [this]
      exact (beg_und _).1 ▸ (by decide)
  · intro h
    rcases beg_cases l with h0 | ⟨b, r, rfl, hb⟩ | ⟨r, rfl⟩ | ⟨r, rfl⟩
    · exact absurd h0 h
    · have hb' := begB_iff.1 hb
      rw [rune_byte (by omega)]
      simp only
      omega
    · rw [rune_del]; simp
    · rw [rune_und]; simp
theorem go_rune (l : List UInt8) : (begC (runeD l).1 || digC (runeD l).1) = decide (goW l ≠ 0) := by
  rw [beg_rune, Bool.eq_iff_iff, Bool.or_eq_true, decide_eq_true_eq, decide_eq_true_eq, digC_iff]
  constructor
  · rintro (h | h | h)
    · rw [(beg_go h).1]; exact h
    · obtain ⟨r, e⟩ := rune_low (by omega) (rfl : (runeD l).1 = (runeD l).1)
      generalize (runeD l).1 = c at e h
      subst e
      rw [go_dig (digB_iff.2 (by rw [u8_nat (by omega)]; exact h))]
      decide
    · have := rune_inv (by decide) h
      rw [show bytesD 175 = [194, 175] by decide] at this
      rw [this]
      exact (go_over _) ▸ (by decide)
  · intro h
    rcases go_cases l with h0 | ⟨b, r, rfl, hb⟩ | ⟨r, rfl⟩ | ⟨b, r, rfl, hb⟩ | ⟨r, rfl⟩ | ⟨r, rfl⟩
    · exact absurd h0.1 h
    · have hb' := digB_iff.1 hb
      rw [rune_byte (by omega)]
      simp only
      omega
    · rw [rune_over]; simp
    · rw [(beg_byte hb r).1]; simp
    · rw [(beg_del r).1]; simp
    · rw [(beg_und r).1]; simp
theorem go_width {l : List UInt8} (h : goW l ≠ 0) : (runeD l).2 = goW l := by
  rcases go_cases l with h0 | ⟨b, r, rfl, hb⟩ | ⟨r, rfl⟩ | ⟨b, r, rfl, hb⟩ | ⟨r, rfl⟩ | ⟨r, rfl⟩
  · exact absurd h0.1 h
  · have hb' := digB_iff.1 hb
    rw [rune_byte (by omega), go_dig hb]
  · rw [rune_over, go_over]
  · have hb' := begB_iff.1 hb
    rw [rune_byte (by omega), (beg_byte hb r).2]
  · rw [rune_del, (beg_del r).2]
  · rw [rune_und, (beg_und r).2]

/-! ### how far a name goes -/
def runF : Nat → List UInt8 → Nat
  | 0, _ => 0
  | k + 1, l => if goW l = 0 then 0 else goW l + runF k (l.drop (goW l))
/-- how many bytes go on with a name -/
def run (l : List UInt8) : Nat := runF l.length l
def cntF : Nat → List UInt8 → Nat
  | 0, _ => 0
  | k + 1, l => if goW l = 0 then 0 else 1 + cntF k (l.drop (goW l))
/-- how many signs go on with a name -/
def cnt (l : List UInt8) : Nat := cntF l.length l
def rcF : Nat → List UInt8 → Nat
  | 0, _ => 0
  | k + 1, l => if l = [] then 0 else 1 + rcF k (l.drop (runeD l).2)
/-- how many signs a range tells -/
def rc (l : List UInt8) : Nat := rcF l.length l

theorem rune_pos (l : List UInt8) : 1 ≤ (runeD l).2 := by
  unfold runeD
  split
  · exact Nat.le_refl _
  · omega
theorem runF_enough : ∀ (k : Nat) (l : List UInt8), l.length ≤ k → runF k l = runF l.length l
  | 0, l, h => by obtain rfl : l = [] := List.eq_nil_of_length_eq_zero (by omega)
                  rfl
  | k + 1, [], _ => by simp [runF, go_nil]
  | k + 1, b :: r, h => by
    have hk : r.length ≤ k := by simpa using h
    show runF (k + 1) (b :: r) = runF (r.length + 1) (b :: r)
    unfold runF
    by_cases hn : goW (b :: r) = 0
    · rw [if_pos hn, if_pos hn]
    · rw [if_neg hn, if_neg hn]
      have hd : ((b :: r).drop (goW (b :: r))).length ≤ r.length := by rw [List.length_drop, List.length_cons]; omega
      rw [runF_enough k _ (by omega), runF_enough r.length _ hd]
theorem cntF_enough : ∀ (k : Nat) (l : List UInt8), l.length ≤ k → cntF k l = cntF l.length l
  | 0, l, h => by obtain rfl : l = [] := List.eq_nil_of_length_eq_zero (by omega)
                  rfl
  | k + 1, [], _ => by simp [cntF, go_nil]
  | k + 1, b :: r, h => by
    have hk : r.length ≤ k := by simpa using h
    show cntF (k + 1) (b :: r) = cntF (r.length + 1) (b :: r)
    unfold cntF
    by_cases hn : goW (b :: r) = 0
    · rw [if_pos hn, if_pos hn]
    · rw [if_neg hn, if_neg hn]
      have hd : ((b :: r).drop (goW (b :: r))).length ≤ r.length := by rw [List.length_drop, List.length_cons]; omega
      rw [cntF_enough k _ (by omega), cntF_enough r.length _ hd]
theorem rcF_enough : ∀ (k : Nat) (l : List UInt8), l.length ≤ k → rcF k l = rcF l.length l
  | 0, l, h => by obtain rfl : l = [] := List.eq_nil_of_length_eq_zero (by omega)
                  rfl
  | k + 1, [], _ => by simp [rcF]
  | k + 1, b :: r, h => by
    have hk : r.length ≤ k := by simpa using h
    show rcF (k + 1) (b :: r) = rcF (r.length + 1) (b :: r)
    unfold rcF
    have hp := rune_pos (b :: r)
    rw [if_neg (by simp), if_neg (by simp)]
    have hd : ((b :: r).drop (runeD (b :: r)).2).length ≤ r.length := by rw [List.length_drop, List.length_cons]; omega
    rw [rcF_enough k _ (by omega), rcF_enough r.length _ hd]
theorem run_step (l : List UInt8) : run l = if goW l = 0 then 0 else goW l + run (l.drop (goW l)) := by
  cases l with
  | nil => rw [if_pos go_nil]; rfl
  | cons b r =>
    show runF (r.length + 1) (b :: r) = _
    rw [runF]
    by_cases hn : goW (b :: r) = 0
    · rw [if_pos hn, if_pos hn]
    · rw [if_neg hn, if_neg hn]
      have hd : ((b :: r).drop (goW (b :: r))).length ≤ r.length := by rw [List.length_drop, List.length_cons]; omega
      rw [runF_enough r.length _ hd]
      rfl
theorem cnt_step (l : List UInt8) : cnt l = if goW l = 0 then 0 else 1 + cnt (l.drop (goW l)) := by
  cases l with
  | nil => rw [if_pos go_nil]; rfl
  | cons b r =>
    show cntF (r.length + 1) (b :: r) = _
    rw [cntF]
    by_cases hn : goW (b :: r) = 0
    · rw [if_pos hn, if_pos hn]
    · rw [if_neg hn, if_neg hn]
      have hd : ((b :: r).drop (goW (b :: r))).length ≤ r.length := by rw [List.length_drop, List.length_cons]; omega
      rw [cntF_enough r.length _ hd]
      rfl
theorem rc_nil : rc [] = 0 := rfl
theorem rc_step {l : List UInt8} (h : l ≠ []) : rc l = 1 + rc (l.drop (runeD l).2) := by
  cases l with
  | nil => exact absurd rfl h
  | cons b r =>
    show rcF (r.length + 1) (b :: r) = _
    have hp := rune_pos (b :: r)
    rw [rcF, if_neg (by simp)]
    have hd : ((b :: r).drop (runeD (b :: r)).2).length ≤ r.length := by rw [List.length_drop, List.length_cons]; omega
    rw [rcF_enough r.length _ hd]
    rfl

/-- the signs of a name, one behind the other -/
def flat : List (List UInt8) → List UInt8
  | [] => []
  | p :: ps => p ++ flat ps
theorem sign_step {p : List UInt8} (h : SignOf p) (r : List UInt8) : run (p ++ r) = p.length + run r ∧ cnt (p ++ r) = 1 + cnt r := by
  have hg := h.2 r
  have hp : p.length ≠ 0 := fun e => h.1 (List.eq_nil_of_length_eq_zero e)
  constructor
  · rw [run_step, if_neg (by rw [hg]; exact hp), hg, List.drop_left]
  · rw [cnt_step, if_neg (by rw [hg]; exact hp), hg, List.drop_left]
theorem run_flat : ∀ {ps : List (List UInt8)}, (∀ p ∈ ps, SignOf p) → ∀ r, run (flat ps ++ r) = (flat ps).length + run r ∧ cnt (flat ps ++ r) = ps.length + cnt r
  | [], _, r => by simp [flat]
  | p :: ps, h, r => by
    obtain ⟨h1, h2⟩ := sign_step (h p (by simp)) (flat ps ++ r)
    obtain ⟨i1, i2⟩ := run_flat (ps := ps) (fun q hq => h q (by simp [hq])) r
    show run ((p ++ flat ps) ++ r) = (p ++ flat ps).length + _ ∧ cnt ((p ++ flat ps) ++ r) = _
    rw [List.append_assoc, h1, h2, i1, i2, List.length_append, List.length_cons]
    omega
/-- a text is the signs that go on, and the rest -/
theorem run_parts : ∀ (l : List UInt8), ∃ ps r, l = flat ps ++ r ∧ (∀ p ∈ ps, SignOf p) ∧ goW r = 0
  | l => by
    by_cases h : goW l = 0
    · exact ⟨[], l, rfl, by simp, h⟩
    · obtain ⟨hs, hl⟩ := go_sign_of h
      have hlt : (l.drop (goW l)).length < l.length := by
        rw [List.length_drop]
        have := go_le l
        omega
      obtain ⟨ps, r, e, hp, hr⟩ := run_parts (l.drop (goW l))
      refine ⟨l.take (goW l) :: ps, r, ?_, ?_, hr⟩
      · show l = (l.take (goW l) ++ flat ps) ++ r
        rw [List.append_assoc, ← e, List.take_append_drop]
      · intro p hm
        rcases List.mem_cons.1 hm with rfl | hm
        · exact hs
        · exact hp p hm
  termination_by l => l.length
  decreasing_by exact hlt
theorem run_zero {r : List UInt8} (h : goW r = 0) : run r = 0 ∧ cnt r = 0 := by rw [run_step, cnt_step, if_pos h, if_pos h]; exact ⟨rfl, rfl⟩
theorem run_all (l : List UInt8) : ∃ ps r, l = flat ps ++ r ∧ (∀ p ∈ ps, SignOf p) ∧ goW r = 0 ∧ run l = (flat ps).length ∧ cnt l = ps.length := by
  obtain ⟨ps, r, rfl, hp, hr⟩ := run_parts l
  obtain ⟨h1, h2⟩ := run_flat hp r
  obtain ⟨z1, z2⟩ := run_zero hr
  exact ⟨ps, r, rfl, hp, hr, by omega, by omega⟩
theorem flat_len : ∀ {ps : List (List UInt8)}, (∀ p ∈ ps, SignOf p) → ps.length ≤ (flat ps).length
  | [], _ => by simp
  | p :: ps, h => by
    have := flat_len (ps := ps) (fun q hq => h q (by simp [hq]))
    have hp : p.length ≠ 0 := fun e => (h p (by simp)).1 (List.eq_nil_of_length_eq_zero e)
    show ps.length + 1 ≤ (p ++ flat ps).length
    rw [List.length_append]
    omega
theorem run_le (l : List UInt8) : run l ≤ l.length ∧ cnt l ≤ run l := by
  obtain ⟨ps, r, e, hp, _, h1, h2⟩ := run_all l
  have := flat_len hp
  have h3 := congrArg List.length e
  rw [List.length_append] at h3
  omega
/-- what is taken is taken whole; behind it nothing goes on -/
theorem run_take (l : List UInt8) : run (l.take (run l)) = run l ∧ cnt (l.take (run l)) = cnt l ∧ goW (l.drop (run l)) = 0 := by
  obtain ⟨ps, r, rfl, hp, hr, h1, h2⟩ := run_all l
  rw [h1, List.take_left, List.drop_left, h2]
  have := run_flat hp []
  rw [List.append_nil] at this
  obtain ⟨z1, z2⟩ := run_zero go_nil
  exact ⟨by omega, by omega, hr⟩
theorem run_app {l : List UInt8} (h : run l = l.length) (r : List UInt8) : run (l ++ r) = l.length + run r ∧ cnt (l ++ r) = cnt l + cnt r := by
  obtain ⟨ps, t, rfl, hp, hr, h1, h2⟩ := run_all l
  have ht : t = [] := by
    rw [h1, List.length_append] at h
    exact List.eq_nil_of_length_eq_zero (by omega)
  subst ht
  rw [List.append_nil] at h2 ⊢
  rw [h2]
  exact run_flat hp r
theorem rc_run : ∀ (l : List UInt8), run l = l.length → rc l = cnt l
  | [], _ => rfl
  | b :: r, h => by
    have hn : goW (b :: r) ≠ 0 := fun e => by
      rw [run_step, if_pos e] at h
      simp at h
    have hw := go_width hn
    have hg := go_le (b :: r)
    rw [rc_step (by simp), cnt_step, if_neg hn, hw]
    rw [run_step, if_neg hn] at h
    have hlt : ((b :: r).drop (goW (b :: r))).length < (b :: r).length := by rw [List.length_drop, List.length_cons]; omega
    rw [rc_run ((b :: r).drop (goW (b :: r))) (by rw [List.length_drop]; omega)]
  termination_by l => l.length

/-- P8.2: how many bytes the name has that a text begins with -/
def takenD (l : List UInt8) : Nat := if begW l = 0 then 0 else run l
/-- P8.1 -/
def rightD (l : List UInt8) : Bool := decide (begW l ≠ 0 ∧ run l = l.length ∧ cnt l ≤ 32)
def sysL : List (List UInt8) := [[226, 142, 149, 67, 84], [226, 142, 149, 73, 79], [226, 142, 149, 76, 88], [226, 142, 149, 80, 80], [226, 142, 149, 80, 87], [226, 142, 149, 82, 76]]
def sysD (l : List UInt8) : Bool := sysL.contains l

theorem taken_le (l : List UInt8) : takenD l ≤ l.length := by
  unfold takenD
  split
  · omega
  · exact (run_le l).1
theorem right_iff {l : List UInt8} : rightD l = true ↔ begW l ≠ 0 ∧ run l = l.length ∧ cnt l ≤ 32 := by simp only [rightD, decide_eq_true_eq]
end Go.Proofs.YtcnijmmpkahoaaaDoor
