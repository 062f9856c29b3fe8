/-
  Mathematics of numbers as bytes. Nothing is claimed here by itself.
-/
import Derived.WalkKit
import Derived.Laws.BitsAllLaws
namespace Go.Proofs.Ytoapfegmipopkaa

def Byt (l : List Int) : Prop := ∀ x ∈ l, 0 ≤ x ∧ x < 256
theorem Byt.tail {c : Int} {cs : List Int} (h : Byt (c :: cs)) : Byt cs := fun x hx => h x (by simp [hx])
theorem Byt.app {a b : List Int} (ha : Byt a) (hb : Byt b) : Byt (a ++ b) := fun x hx => by
  rcases List.mem_append.1 hx with h | h
  · exact ha x h
  · exact hb x h
theorem Byt.take {a : List Int} (h : Byt a) (n : Nat) : Byt (a.take n) := fun x hx => h x (List.mem_of_mem_take hx)
theorem Byt.drop {a : List Int} (h : Byt a) (n : Nat) : Byt (a.drop n) := fun x hx => h x (List.mem_of_mem_drop hx)
theorem Byt.at_ {a : List Int} (h : Byt a) (i : Nat) : 0 ≤ a.getD i 0 ∧ a.getD i 0 < 256 := by
  by_cases hi : i < a.length
  · exact h _ (by simp [hi])
  · simp [List.getElem?_eq_none (show a.length ≤ i by omega)]
theorem byt_nil : Byt [] := fun x hx => by cases hx

/-- a number's bytes -/
def digs (n : Nat) : List Int := if n < 128 then [(n : Int)] else ((n % 128 + 128 : Nat) : Int) :: digs (n / 128)
termination_by n
decreasing_by omega

theorem digs_lo {n : Nat} (h : n < 128) : digs n = [(n : Int)] := by rw [digs, if_pos h]
theorem digs_hi {n : Nat} (h : 128 ≤ n) : digs n = ((n % 128 + 128 : Nat) : Int) :: digs (n / 128) := by rw [digs, if_neg (by omega)]
theorem digs_pos (n : Nat) : 1 ≤ (digs n).length := by
  by_cases h : n < 128
  · simp [digs_lo h]
  · simp [digs_hi (show 128 ≤ n by omega)]
theorem digs_byt (n : Nat) : Byt (digs n) := by
  induction n using Nat.strongRecOn with
  | _ n ih =>
    by_cases h : n < 128
    · rw [digs_lo h]
      intro x hx
      simp at hx
      omega
    · rw [digs_hi (by omega)]
      intro x hx
      rcases List.mem_cons.1 hx with h1 | h1
      · omega
      · exact ih (n / 128) (by omega) x h1
theorem digs_len (k : Nat) : ∀ n, n < 128 ^ (k + 1) → (digs n).length ≤ k + 1 := by
  induction k with
  | zero => intro n h; rw [digs_lo (by simpa using h)]; simp
  | succ k ih =>
    intro n h
    by_cases hn : n < 128
    · simp [digs_lo hn]
    · rw [digs_hi (by omega), List.length_cons]
      have : n / 128 < 128 ^ (k + 1) := by
        rw [Nat.pow_succ] at h
        exact Nat.div_lt_of_lt_mul (by omega)
      have := ih _ this
      omega
theorem digs_ten {n : Nat} (h : n < 18446744073709551616) : (digs n).length ≤ 10 := digs_len 9 n (Nat.lt_of_lt_of_le h (by decide))

/-- what is read of bytes from the place i on, n being read: the number, how many bytes it has, the error -/
def takeAt : Nat → Nat → List Int → Nat × Nat × Nat
  | _, _, [] => (0, 0, 2)
  | i, n, c :: cs => if (i = 9 ∧ 1 < c) ∨ (0 < i ∧ c = 0) then (0, 0, 3) else if c < 128 then (n + c.toNat * 128 ^ i, i + 1, 0) else takeAt (i + 1) (n + (c.toNat - 128) * 128 ^ i) cs
def takeN (bs : List Int) : Nat × Nat × Nat := takeAt 0 0 bs

theorem take_back (rest : List Int) : ∀ n i acc, i ≤ 9 → n * 128 ^ i < 18446744073709551616 → (0 < i → 0 < n) → takeAt i acc (digs n ++ rest) = (acc + n * 128 ^ i, i + (digs n).length, 0) := by
  intro n
  induction n using Nat.strongRecOn with
  | _ n ih =>
    intro i acc hi hn hp
    by_cases h9 : i = 9
    · subst h9
      have hn2 : n < 2 := by
        have : (128 : Nat) ^ 9 = 9223372036854775808 := by decide
        rw [this] at hn
        omega
      have := hp (by omega)
      rw [digs_lo (by omega), List.cons_append, takeAt, if_neg (by omega), if_pos (by omega)]
      simp
    · by_cases h : n < 128
      · rw [digs_lo h, List.cons_append, takeAt, if_neg (by omega), if_pos (by omega)]
        simp
      · rw [digs_hi (by omega), List.cons_append, takeAt, if_neg (by omega), if_neg (by omega)]
        have e : (((n % 128 + 128 : Nat) : Int)).toNat - 128 = n % 128 := by omega
        have hpow : (128 : Nat) ^ (i + 1) = 128 * 128 ^ i := by rw [Nat.pow_succ, Nat.mul_comm]
        have hsplit : n * 128 ^ i = (n % 128) * 128 ^ i + n / 128 * 128 ^ (i + 1) := by
          rw [hpow, ← Nat.mul_assoc, ← Nat.add_mul, show n % 128 + n / 128 * 128 = n by omega]
        have IH := ih (n / 128) (by omega) (i + 1) (acc + n % 128 * 128 ^ i) (by omega) (by rw [hsplit] at hn; exact Nat.lt_of_le_of_lt (Nat.le_add_left _ _) hn) (fun _ => by omega)
        rw [e]
        generalize (128 : Nat) ^ (i + 1) = P1 at *
        generalize (128 : Nat) ^ i = P0 at *
        rw [IH, List.length_cons]
        simp only [Prod.mk.injEq, and_true]
        omega

theorem takeN_back (n : Nat) (rest : List Int) (h : n < 18446744073709551616) : takeN (digs n ++ rest) = (n, (digs n).length, 0) := by
  rw [takeN, take_back rest n 0 0 (by omega) (by simpa using h) (by omega)]
  simp

theorem take_once : ∀ (bs : List Int) (i acc n k : Nat), Byt bs → takeAt i acc bs = (n, k, 0) →
    ∃ m, n = acc + m * 128 ^ i ∧ k = i + (digs m).length ∧ bs.take (digs m).length = digs m ∧ (digs m).length ≤ bs.length ∧ (0 < i → 0 < m) := by
  intro bs
  induction bs with
  | nil => intro i acc n k _ h; simp [takeAt] at h
  | cons c cs ih =>
    intro i acc n k hb h
    have hc := hb c (by simp)
    rw [takeAt] at h
    split at h
    · simp at h
    · split at h
      · refine ⟨c.toNat, ?_, ?_, ?_, ?_, by omega⟩
        · simp at h; omega
        · rw [digs_lo (by omega)]; simp at h ⊢; omega
        · rw [digs_lo (by omega)]; simp; omega
        · rw [digs_lo (by omega)]; simp
      · obtain ⟨m, h1, h2, h3, h4, h5⟩ := ih _ _ _ _ hb.tail h
        have hm := h5 (by omega)
        have hd : digs (c.toNat - 128 + 128 * m) = c :: digs m := by
          rw [digs_hi (by omega), show (c.toNat - 128 + 128 * m) % 128 = c.toNat - 128 by omega, show (c.toNat - 128 + 128 * m) / 128 = m by omega]
          congr 1
          omega
        refine ⟨c.toNat - 128 + 128 * m, ?_, ?_, ?_, ?_, by omega⟩
        · rw [h1, Nat.pow_succ, Nat.add_mul]
          have : m * (128 ^ i * 128) = 128 * m * 128 ^ i := by ac_rfl
          omega
        · rw [hd, h2, List.length_cons]; omega
        · rw [hd, List.length_cons, List.take_succ_cons, h3]
        · rw [hd, List.length_cons, List.length_cons]; omega

theorem take_prefix : ∀ (bs : List Int) (i acc n k j : Nat), takeAt i acc bs = (n, k, 0) → i + j < k → takeAt i acc (bs.take j) = (0, 0, 2) := by
  intro bs
  induction bs with
  | nil => intro i acc n k j h; simp [takeAt] at h
  | cons c cs ih =>
    intro i acc n k j h hj
    rw [takeAt] at h
    cases j with
    | zero => simp [takeAt]
    | succ j =>
      rw [List.take_succ_cons, takeAt]
      split at h
      · simp at h
      · rename_i hno
        rw [if_neg hno]
        split at h
        · simp at h
          omega
        · rename_i hc
          rw [if_neg hc]
          exact ih _ _ _ _ j h (by omega)

theorem take_err : ∀ (bs : List Int) (i acc n k e : Nat), takeAt i acc bs = (n, k, e) → e ≠ 0 → n = 0 ∧ k = 0 ∧ (e = 2 ∨ e = 3) := by
  intro bs
  induction bs with
  | nil => intro i acc n k e h _; simp [takeAt] at h; omega
  | cons c cs ih =>
    intro i acc n k e h he
    rw [takeAt] at h
    split at h
    · simp at h; omega
    · split at h
      · simp at h; omega
      · exact ih _ _ _ _ _ h he

theorem take_more (more : List Int) : ∀ (bs : List Int) (i acc : Nat), (takeAt i acc bs).2.2 ≠ 2 → takeAt i acc (bs ++ more) = takeAt i acc bs := by
  intro bs
  induction bs with
  | nil => intro i acc h; simp [takeAt] at h
  | cons c cs ih =>
    intro i acc h
    rw [List.cons_append, takeAt, takeAt]
    rw [takeAt] at h
    split
    · rfl
    · rename_i hno
      rw [if_neg hno] at h
      split
      · rfl
      · rename_i hc
        rw [if_neg hc] at h
        exact ih _ _ h

theorem take_short : ∀ (bs : List Int) (i acc : Nat), i ≤ 9 → (takeAt i acc bs).2.2 = 2 → bs.length + i < 10 := by
  intro bs
  induction bs with
  | nil => intro i acc h _; simp; omega
  | cons c cs ih =>
    intro i acc hi h
    rw [takeAt] at h
    split at h
    · simp at h
    · split at h
      · simp at h
      · have := ih (i + 1) _ (by omega) h
        rw [List.length_cons]
        omega

/-- the number that is read fits -/
theorem take_fits : ∀ (bs : List Int) (i acc : Nat), Byt bs → i ≤ 9 → acc < 128 ^ i → (takeAt i acc bs).1 < 18446744073709551616 ∧ (takeAt i acc bs).2.1 ≤ 10 ∧ (takeAt i acc bs).2.2 ≤ 3 := by
  intro bs
  induction bs with
  | nil => intro i acc _ _ _; simp [takeAt]
  | cons c cs ih =>
    intro i acc hb hi ha
    have hc := hb c (by simp)
    rw [takeAt]
    split
    · simp
    · split
      · have hp : (128 : Nat) ^ i * 2 ≤ 18446744073709551616 ∧ (i ≤ 8 → 128 ^ i ≤ 72057594037927936) := by
          constructor
          · have := Nat.pow_le_pow_right (n := 128) (by decide) hi
            have e : (128 : Nat) ^ 9 = 9223372036854775808 := by decide
            omega
          · intro h8
            have := Nat.pow_le_pow_right (n := 128) (by decide) h8
            have e : (128 : Nat) ^ 8 = 72057594037927936 := by decide
            omega
        refine ⟨?_, by simp; omega, by simp⟩
        show acc + c.toNat * 128 ^ i < 18446744073709551616
        by_cases h9 : i = 9
        · have : c.toNat ≤ 1 := by omega
          have : c.toNat * 128 ^ i ≤ 1 * 128 ^ i := Nat.mul_le_mul_right _ this
          omega
        · have h8 := hp.2 (by omega)
          have h1 : c.toNat * 128 ^ i ≤ 127 * 128 ^ i := Nat.mul_le_mul_right _ (by omega)
          omega
      · refine ih _ _ hb.tail (by omega) ?_
        have h1 : (c.toNat - 128) * 128 ^ i ≤ 127 * 128 ^ i := Nat.mul_le_mul_right _ (by omega)
        rw [Nat.pow_succ]
        omega

theorem takeN_fits (bs : List Int) (h : Byt bs) : (takeN bs).1 < 18446744073709551616 ∧ (takeN bs).2.1 ≤ 10 ∧ (takeN bs).2.2 ≤ 3 := take_fits bs 0 0 h (by omega) (by decide)

theorem drop_cons_ (l : List Int) (k : Nat) (h : k < l.length) : l.drop k = l.getD k 0 :: l.drop (k + 1) := by
  rw [List.drop_eq_getElem_cons h]
  simp [h]

/-- bits that lie apart: or is plus -/
theorem or_add (x y k : Nat) (h : x < 2 ^ k) : x ||| y * 2 ^ k = x + y * 2 ^ k := by
  have := Nat.two_pow_add_eq_or_of_lt h y
  rw [Nat.mul_comm, Nat.or_comm, ← this, Nat.add_comm]

theorem low7 (c : Nat) : c &&& 127 = c % 128 := Nat.and_two_pow_sub_one_eq_mod c 7
theorem or7 (c : Nat) : c % 256 ||| 128 = c % 128 + 128 := by
  have h1 := or_add (c % 128) 1 7 (by show _ < 128; omega)
  have h2 : c % 256 = c % 128 + (c / 128 % 2) * 128 := by omega
  rcases Nat.mod_two_eq_zero_or_one (c / 128) with h | h
  · rw [h2, h]; simpa using h1
  · rw [h2, h]
    have h3 : c % 128 + 1 * 128 = c % 128 ||| 128 := by simpa using h1.symm
    rw [h3, Nat.or_assoc, Nat.or_self]

/-- all bytes of numbers -/
def flat (ns : List Int) : List Int := (ns.map fun n => digs n.toNat).flatten
theorem flat_nil : flat [] = [] := rfl
theorem flat_cons (n : Int) (ns : List Int) : flat (n :: ns) = digs n.toNat ++ flat ns := by simp [flat]
theorem flat_app (a b : List Int) : flat (a ++ b) = flat a ++ flat b := by simp [flat]
theorem flat_one (n : Int) : flat [n] = digs n.toNat := by simp [flat]
theorem flat_byt (ns : List Int) : Byt (flat ns) := by
  induction ns with
  | nil => exact byt_nil
  | cons n ns ih => rw [flat_cons]; exact (digs_byt _).app ih
theorem take_one (l : List Int) (k : Nat) (hk : k < l.length) : l.take (k + 1) = l.take k ++ [l.getD k 0] := by simp [hk]
theorem flat_take (ns : List Int) (k : Nat) (hk : k < ns.length) : flat (ns.take (k + 1)) = flat (ns.take k) ++ digs (ns.getD k 0).toNat := by rw [take_one ns k hk, flat_app, flat_one]
theorem flat_drop (ns : List Int) (k : Nat) (hk : k < ns.length) : flat (ns.drop k) = digs (ns.getD k 0).toNat ++ flat (ns.drop (k + 1)) := by rw [drop_cons_ ns k hk, flat_cons]
theorem flat_le (ns : List Int) (k : Nat) : (flat (ns.take k)).length ≤ (flat ns).length := by
  conv => rhs; rw [← List.take_append_drop k ns, flat_app, List.length_append]
  omega

def U64 (l : List Int) : Prop := ∀ x ∈ l, 0 ≤ x ∧ x < 18446744073709551616
theorem U64.at_ {a : List Int} (h : U64 a) (i : Nat) : 0 ≤ a.getD i 0 ∧ a.getD i 0 < 18446744073709551616 := by
  by_cases hi : i < a.length
  · exact h _ (by simp [hi])
  · simp [List.getElem?_eq_none (show a.length ≤ i by omega)]
theorem flat_len (ns : List Int) (h : U64 ns) : (flat ns).length ≤ 10 * ns.length := by
  induction ns with
  | nil => simp [flat_nil]
  | cons n ns ih =>
    have h0 := h n (by simp)
    have := digs_ten (n := n.toNat) (by omega)
    have := ih (fun x hx => h x (by simp [hx]))
    rw [flat_cons, List.length_append, List.length_cons]
    omega
end Go.Proofs.Ytoapfegmipopkaa
