/-
  Mathematics of sums of thirty-two bits, over natural numbers. Nothing is claimed here by itself.
-/
namespace Go.Proofs.Ytbpdjohbbhblcaa

/-- a step: n halved, and the polynomial, if n was odd -/
def stp (p n : Nat) : Nat := if n % 2 = 1 then n / 2 ^^^ p else n / 2
def stps (p : Nat) : Nat → Nat → Nat
  | 0, n => n
  | k + 1, n => stps p k (stp p n)

theorem xor_half (a b : Nat) : (a ^^^ b) / 2 = a / 2 ^^^ b / 2 := by
  have := Nat.shiftRight_xor_distrib (a := a) (b := b) (i := 1)
  simpa [Nat.shiftRight_eq_div_pow] using this
theorem xor_div (a b k : Nat) : (a ^^^ b) / 2 ^ k = a / 2 ^ k ^^^ b / 2 ^ k := by
  have := Nat.shiftRight_xor_distrib (a := a) (b := b) (i := k)
  simpa [Nat.shiftRight_eq_div_pow] using this
theorem xor_odd (a b : Nat) : (a ^^^ b) % 2 = (a % 2 + b % 2) % 2 := by
  have h : (decide ((a ^^^ b) % 2 = 1)) = ((decide (a % 2 = 1)) ^^ (decide (b % 2 = 1))) := by
    rw [← Nat.testBit_zero, ← Nat.testBit_zero, ← Nat.testBit_zero]
    exact Nat.testBit_xor a b 0
  generalize a ^^^ b = x at *
  by_cases ha : a % 2 = 1 <;> by_cases hb : b % 2 = 1 <;> by_cases hx : x % 2 = 1 <;> simp only [ha, hb, hx, decide_true, decide_false] at h ⊢ <;> first | omega | exact absurd h (by decide)
theorem xor4 (a b p : Nat) : (a ^^^ p) ^^^ (b ^^^ p) = a ^^^ b := by
  apply Nat.eq_of_testBit_eq
  intro i
  simp only [Nat.testBit_xor]
  cases a.testBit i <;> cases b.testBit i <;> cases p.testBit i <;> rfl

theorem stp_xor (p a b : Nat) : stp p (a ^^^ b) = stp p a ^^^ stp p b := by
  unfold stp
  rw [xor_half, xor_odd]
  rcases Nat.mod_two_eq_zero_or_one a with ha | ha <;> rcases Nat.mod_two_eq_zero_or_one b with hb | hb
  · simp [ha, hb]
  · simp [ha, hb, Nat.xor_assoc]
  · simp only [ha, hb]
    show a / 2 ^^^ b / 2 ^^^ p = a / 2 ^^^ p ^^^ b / 2
    ac_rfl
  · simp [ha, hb, xor4]

theorem stps_xor (p k a b : Nat) : stps p k (a ^^^ b) = stps p k a ^^^ stps p k b := by
  induction k generalizing a b with
  | zero => rfl
  | succ k ih => simp only [stps]; rw [stp_xor, ih]

theorem stp_even (p n : Nat) : stp p (2 * n) = n := by
  unfold stp
  rw [if_neg (by omega)]
  omega
theorem stps_add (p j k n : Nat) : stps p (j + k) n = stps p k (stps p j n) := by
  induction j generalizing n with
  | zero => simp [stps]
  | succ j ih => rw [show j + 1 + k = (j + k) + 1 by omega]; simp only [stps]; exact ih _
theorem stps_pow (p k n : Nat) : stps p k (n * 2 ^ k) = n := by
  induction k with
  | zero => simp [stps]
  | succ k ih => simp only [stps]; rw [show n * 2 ^ (k + 1) = 2 * (n * 2 ^ k) by rw [Nat.pow_succ]; ac_rfl, stp_even, ih]
theorem stps_zero (p k : Nat) : stps p k 0 = 0 := by
  have := stps_pow p k 0
  simpa using this

theorem stp_lt (p n : Nat) (hp : p < 4294967296) (hn : n < 4294967296) : stp p n < 4294967296 := by
  unfold stp
  split
  · exact Nat.xor_lt_two_pow (n := 32) (by omega) hp
  · omega
theorem stps_lt (p k n : Nat) (hp : p < 4294967296) (hn : n < 4294967296) : stps p k n < 4294967296 := by
  induction k generalizing n with
  | zero => exact hn
  | succ k ih => exact ih _ (stp_lt p n hp hn)

theorem stp_ne (p n : Nat) (hp : 2147483648 ≤ p) (hp2 : p < 4294967296) (hn : n < 4294967296) (h : n ≠ 0) : stp p n ≠ 0 := by
  unfold stp
  split
  · intro he
    have e : n / 2 = p := by
      have := congrArg (· ^^^ p) he
      simpa [Nat.xor_assoc] using this
    omega
  · omega
theorem stps_ne (p k n : Nat) (hp : 2147483648 ≤ p) (hp2 : p < 4294967296) (hn : n < 4294967296) (h : n ≠ 0) : stps p k n ≠ 0 := by
  induction k generalizing n with
  | zero => exact h
  | succ k ih => exact ih _ (stp_lt p n hp2 hn) (stp_ne p n hp hp2 hn h)

/-- one byte's step, by a table -/
def byt (T : Nat → Nat) (s c : Nat) : Nat := s / 256 ^^^ T ((s ^^^ c) % 256)
/-- all bytes' steps -/
def raw (T : Nat → Nat) (s : Nat) (bs : List Int) : Nat := bs.foldl (fun s c => byt T s c.toNat) s

theorem raw_nil (T : Nat → Nat) (s : Nat) : raw T s [] = s := rfl
theorem raw_cons (T : Nat → Nat) (s : Nat) (c : Int) (bs : List Int) : raw T s (c :: bs) = raw T (byt T s c.toNat) bs := rfl
theorem raw_app (T : Nat → Nat) (s : Nat) (a b : List Int) : raw T s (a ++ b) = raw T (raw T s a) b := by simp [raw, List.foldl_append]

def Small (T : Nat → Nat) : Prop := ∀ i, i < 256 → T i < 4294967296
theorem byt_lt {T : Nat → Nat} (hT : Small T) (s c : Nat) (hs : s < 4294967296) : byt T s c < 4294967296 :=
  Nat.xor_lt_two_pow (n := 32) (by omega) (hT _ (Nat.mod_lt _ (by decide)))
theorem raw_lt {T : Nat → Nat} (hT : Small T) (bs : List Int) (s : Nat) (hs : s < 4294967296) : raw T s bs < 4294967296 := by
  induction bs generalizing s with
  | nil => exact hs
  | cons c bs ih => exact ih _ (byt_lt hT s _ hs)

/-- the table of a polynomial -/
def tabF (p n : Nat) : Nat := stps p 8 n
theorem tab_small (p : Nat) (hp : p < 4294967296) : Small (tabF p) := fun i hi => stps_lt p 8 i hp (by omega)

theorem xor_split (x : Nat) : x = (x / 256 * 2 ^ 8) ^^^ (x % 256) := by
  have h := Nat.div_add_mod x 256
  have e : x / 256 * 2 ^ 8 + x % 256 = (x / 256 * 2 ^ 8) ||| (x % 256) := by
    have := Nat.shiftLeft_add_eq_or_of_lt (i := 8) (b := x % 256) (Nat.mod_lt _ (by decide)) (x / 256)
    simpa [Nat.shiftLeft_eq] using this
  apply Nat.eq_of_testBit_eq
  intro i
  have h2 : x = (x / 256 * 2 ^ 8) ||| (x % 256) := by omega
  rw [Nat.testBit_xor]
  have h3 : x.testBit i = ((x / 256 * 2 ^ 8).testBit i || (x % 256).testBit i) := by
    have := congrArg (fun y => Nat.testBit y i) h2
    simpa using this
  rw [h3]
  have h4 : (x % 256).testBit i = (decide (i < 8) && x.testBit i) := by
    have := Nat.testBit_mod_two_pow x 8 i
    simpa using this
  have h5 : (x / 256 * 2 ^ 8).testBit i = (decide (8 ≤ i) && (x / 256).testBit (i - 8)) := by
    rw [Nat.mul_comm]
    exact Nat.testBit_two_pow_mul
  rw [h4, h5]
  by_cases hi : i < 8
  · simp [hi, show ¬ 8 ≤ i by omega]
  · simp [hi, show 8 ≤ i by omega]

theorem byt_tab (p s c : Nat) (hc : c < 256) : byt (tabF p) s c = stps p 8 (s ^^^ c) := by
  unfold byt tabF
  have hd : s / 256 = (s ^^^ c) / 256 := by
    have := xor_div s c 8
    rw [show (2 : Nat) ^ 8 = 256 from rfl] at this
    rw [this, Nat.div_eq_of_lt hc, Nat.xor_zero]
  generalize s ^^^ c = x at *
  rw [hd]
  conv => rhs; rw [xor_split x, stps_xor, stps_pow]

/-- the number whose bytes, the lowest one first, they are -/
def le : List Int → Nat
  | [] => 0
  | c :: cs => c.toNat ^^^ (le cs * 2 ^ 8)

def Byt (bs : List Int) : Prop := ∀ c ∈ bs, 0 ≤ c ∧ c < 256

theorem raw_tab (p : Nat) (bs : List Int) (h : Byt bs) (s : Nat) : raw (tabF p) s bs = stps p (8 * bs.length) (s ^^^ le bs) := by
  induction bs generalizing s with
  | nil => simp [raw, le, stps]
  | cons c cs ih =>
    have hc := h c (by simp)
    rw [raw_cons, ih (fun x hx => h x (by simp [hx])), byt_tab p s _ (by omega)]
    rw [List.length_cons, show 8 * (cs.length + 1) = 8 + 8 * cs.length by omega, stps_add]
    congr 1
    rw [le, ← Nat.xor_assoc, stps_xor p 8 (s ^^^ c.toNat) (le cs * 2 ^ 8), stps_pow]

/-- turned within thirty-two bits: never the same -/
theorem raw_turn (p : Nat) (bs xs : List Int) (hb : Byt bs) (hx : Byt xs) (hl : xs.length = bs.length) (s m k : Nat) (hp : 2147483648 ≤ p) (hp2 : p < 4294967296) (hm : m < 4294967296) (h0 : m ≠ 0)
    (hk : k ≤ 8 * bs.length) (he : le xs = le bs ^^^ (m * 2 ^ k)) : raw (tabF p) s xs ≠ raw (tabF p) s bs := by
  rw [raw_tab p xs hx, raw_tab p bs hb, hl, he, ← Nat.xor_assoc, stps_xor p _ (s ^^^ le bs)]
  obtain ⟨j, hj⟩ : ∃ j, 8 * bs.length = k + j := ⟨8 * bs.length - k, by omega⟩
  have hne : stps p (8 * bs.length) (m * 2 ^ k) ≠ 0 := by
    rw [hj, stps_add, stps_pow]
    exact stps_ne p j m hp hp2 hm h0
  generalize stps p (8 * bs.length) (s ^^^ le bs) = a at *
  generalize stps p (8 * bs.length) (m * 2 ^ k) = b at *
  intro h
  apply hne
  have := congrArg (a ^^^ ·) h
  simpa [← Nat.xor_assoc] using this

/-- what is sealed sums up to one number, whatever was sealed -/
theorem raw_sealed (p : Nat) (as q : List Int) (hq : Byt q) (h4 : q.length = 4) (s : Nat) (h : le q = raw (tabF p) s as ^^^ 4294967295) :
    raw (tabF p) s (as ++ q) = stps p 32 4294967295 := by
  rw [raw_app, raw_tab p q hq, h4, h, ← Nat.xor_assoc, Nat.xor_self, Nat.zero_xor]

/-- three rows -/
theorem byt_lin (p s1 s2 s3 c1 c2 c3 : Nat) (h1 : c1 < 256) (h2 : c2 < 256) (h3 : c3 < 256) (h4 : c1 ^^^ c2 ^^^ c3 < 256) :
    byt (tabF p) (s1 ^^^ s2 ^^^ s3) (c1 ^^^ c2 ^^^ c3) = byt (tabF p) s1 c1 ^^^ byt (tabF p) s2 c2 ^^^ byt (tabF p) s3 c3 := by
  rw [byt_tab p _ _ h4, byt_tab p _ _ h1, byt_tab p _ _ h2, byt_tab p _ _ h3, ← stps_xor, ← stps_xor]
  congr 1
  ac_rfl
end Go.Proofs.Ytbpdjohbbhblcaa
