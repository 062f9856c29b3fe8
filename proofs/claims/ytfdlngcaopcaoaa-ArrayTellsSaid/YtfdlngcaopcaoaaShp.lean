/-
  Shapes as lists: how many items there are, where an item is, and its place. Nothing is claimed here by itself.
-/
import Derived.Test.YtfdlngcaopcaoaaFlow
namespace Go.Proofs.Ytfdlngcaopcaoaa
set_option linter.unusedVariables false

def prodN : List Nat → Nat
  | [] => 1
  | x :: xs => x * prodN xs
def toN (xs : List Int) : List Nat := xs.map Int.toNat
def ofN (ns : List Nat) : List Int := ns.map fun n => ((n : Nat) : Int)
def okI (x : Int) : Bool := decide (0 ≤ x) && decide (x ≤ 1048576)
/-- a right shape -/
def rightB (xs : List Int) : Bool := decide (xs.length ≤ 16) && (xs.all okI && decide (prodN (toN xs) ≤ 1048576))
def cnt (xs : List Int) : Nat := if rightB xs = true then prodN (toN xs) else 0
def inB : List Int → List Int → Bool
  | [], [] => true
  | x :: xs, a :: ys => (decide (0 ≤ a) && decide (a < x)) && inB xs ys
  | _, _ => false
def hor : Nat → List Nat → List Nat → Nat
  | p, x :: xs, a :: ys => hor (p * x + a) xs ys
  | p, _, _ => p
def plcB (xs ys : List Int) : Bool := rightB xs && inB xs ys
def plc (xs ys : List Int) : Nat := if plcB xs ys = true then hor 0 (toN xs) (toN ys) else 0
def digs : List Nat → Nat → List Nat
  | [], _ => []
  | x :: xs, i => i / prodN xs % x :: digs xs i
def indB (xs : List Int) (i : Int) : Bool := rightB xs && (decide (0 ≤ i) && decide (i < prodN (toN xs)))
def ind (xs : List Int) (i : Int) : List Int := if indB xs i = true then ofN (digs (toN xs) i.toNat) else []
/-- numbers within -/
def InN : List Nat → List Nat → Prop
  | [], [] => True
  | x :: xs, a :: ys => a < x ∧ InN xs ys
  | _, _ => False

theorem prod_app (a b : List Nat) : prodN (a ++ b) = prodN a * prodN b := by
  induction a with
  | nil => simp [prodN]
  | cons x a ih => simp [prodN, ih, Nat.mul_assoc]
theorem prod_pos {xs : List Nat} (h : ∀ x ∈ xs, 0 < x) : 0 < prodN xs := by
  induction xs with
  | nil => simp [prodN]
  | cons x xs ih => exact Nat.mul_pos (h x (by simp)) (ih fun y hy => h y (by simp [hy]))
theorem prod_zero {xs : List Nat} (h : 0 ∈ xs) : prodN xs = 0 := by
  induction xs with
  | nil => cases h
  | cons x xs ih =>
    rcases List.mem_cons.1 h with h | h
    · subst h; simp [prodN]
    · simp [prodN, ih h]
theorem pos_of_prod {xs : List Nat} (h : prodN xs ≠ 0) : ∀ x ∈ xs, 0 < x := by
  intro x hx
  rcases Nat.eq_zero_or_pos x with h0 | h0
  · subst h0; exact absurd (prod_zero hx) h
  · exact h0
theorem toN_ofN (ns : List Nat) : toN (ofN ns) = ns := by
  induction ns with
  | nil => rfl
  | cons x ns ih =>
    simp [toN, ofN] at ih ⊢
    exact ih
theorem ofN_len (ns : List Nat) : (ofN ns).length = ns.length := by simp [ofN]
theorem toN_len (xs : List Int) : (toN xs).length = xs.length := by simp [toN]
theorem digs_len (xs : List Nat) (i : Nat) : (digs xs i).length = xs.length := by
  induction xs with
  | nil => rfl
  | cons x xs ih => simp [digs, ih]
theorem ofN_toN {xs : List Int} (h : xs.all okI = true) : ofN (toN xs) = xs := by
  induction xs with
  | nil => rfl
  | cons x xs ih =>
    simp only [List.all_cons, Bool.and_eq_true, okI, decide_eq_true_eq] at h
    have := ih h.2
    simp only [toN, ofN, List.map_cons] at this ⊢
    rw [this, Int.toNat_of_nonneg h.1.1]

theorem hor_step (q : Nat) : ∀ (xs ys : List Nat), InN xs ys → hor q xs ys = q * prodN xs + hor 0 xs ys ∧ hor 0 xs ys < prodN xs
  | [], [], _ => by simp [hor, prodN]
  | x :: xs, a :: ys, h => by
    obtain ⟨h1, h2⟩ := h
    have e1 := (hor_step (q * x + a) xs ys h2).1
    obtain ⟨e2, e3⟩ := hor_step (0 * x + a) xs ys h2
    have e4 : hor q (x :: xs) (a :: ys) = hor (q * x + a) xs ys := rfl
    have e5 : hor 0 (x :: xs) (a :: ys) = hor (0 * x + a) xs ys := rfl
    rw [e4, e5, e1, e2, prodN]
    refine ⟨by rw [Nat.zero_mul, Nat.zero_add, Nat.add_mul, Nat.mul_assoc]; omega, ?_⟩
    rw [Nat.zero_mul, Nat.zero_add]
    have : (a + 1) * prodN xs ≤ x * prodN xs := Nat.mul_le_mul_right _ h1
    rw [Nat.add_mul, Nat.one_mul] at this
    omega
theorem digs_hor (q : Nat) : ∀ (xs ys : List Nat), InN xs ys → digs xs (hor q xs ys) = ys
  | [], [], _ => rfl
  | x :: xs, a :: ys, h => by
    obtain ⟨h1, h2⟩ := h
    have e4 : hor q (x :: xs) (a :: ys) = hor (q * x + a) xs ys := rfl
    rw [digs, e4, digs_hor (q * x + a) xs ys h2]
    obtain ⟨e1, e2⟩ := hor_step (q * x + a) xs ys h2
    have hP : 0 < prodN xs := by omega
    have e5 : hor (q * x + a) xs ys / prodN xs = q * x + a := by
      rw [e1, Nat.add_comm, Nat.add_mul_div_right _ _ hP, Nat.div_eq_of_lt e2, Nat.zero_add]
    rw [e5, Nat.add_comm, Nat.add_mul_mod_self_right, Nat.mod_eq_of_lt h1]
theorem in_digs : ∀ (xs : List Nat) (i : Nat), (∀ x ∈ xs, 0 < x) → InN xs (digs xs i)
  | [], _, _ => trivial
  | x :: xs, i, h => ⟨Nat.mod_lt _ (h x (by simp)), in_digs xs i fun y hy => h y (by simp [hy])⟩
theorem hor_digs (i : Nat) : ∀ (xs : List Nat) (q : Nat), (∀ x ∈ xs, 0 < x) → hor q xs (digs xs i) = q * prodN xs + i % prodN xs
  | [], q, _ => by simp [hor, prodN, Nat.mod_one]
  | x :: xs, q, h => by
    have e4 : hor q (x :: xs) (digs (x :: xs) i) = hor (q * x + i / prodN xs % x) xs (digs xs i) := rfl
    rw [e4, hor_digs i xs _ fun y hy => h y (by simp [hy]), prodN, Nat.mul_comm x (prodN xs), Nat.mod_mul, Nat.add_mul, Nat.mul_assoc, Nat.mul_comm x (prodN xs), Nat.mul_comm (i / prodN xs % x)]
    omega

theorem in_of : ∀ {xs ys : List Int}, inB xs ys = true → ofN (toN ys) = ys ∧ InN (toN xs) (toN ys) ∧ ys.length = xs.length
  | [], [], _ => ⟨rfl, trivial, rfl⟩
  | x :: xs, a :: ys, h => by
    simp only [inB, Bool.and_eq_true, decide_eq_true_eq] at h
    obtain ⟨⟨h1, h2⟩, h3⟩ := h
    obtain ⟨e1, e2, e3⟩ := in_of h3
    refine ⟨?_, ⟨by omega, e2⟩, by simp [e3]⟩
    simp only [toN, ofN, List.map_cons] at e1 ⊢
    rw [e1, Int.toNat_of_nonneg h1]
  | [], _ :: _, h => by cases h
  | _ :: _, [], h => by cases h
theorem in_to : ∀ {xs ys : List Nat}, InN xs ys → inB (ofN xs) (ofN ys) = true
  | [], [], _ => rfl
  | x :: xs, a :: ys, h => by
    have := in_to h.2
    have h1 := h.1
    simp only [ofN, List.map_cons, inB, Bool.and_eq_true, decide_eq_true_eq] at this ⊢
    exact ⟨⟨by omega, by omega⟩, this⟩
theorem in_zero : ∀ {xs ys : List Int}, prodN (toN xs) = 0 → inB xs ys = false
  | [], [], h => by simp [toN, prodN] at h
  | [], _ :: _, _ => rfl
  | _ :: _, [], _ => rfl
  | x :: xs, a :: ys, h => by
    have h' : x.toNat * prodN (toN xs) = 0 := h
    rcases Nat.mul_eq_zero.1 h' with h0 | h0
    · have : ¬ (0 ≤ a ∧ a < x) := by omega
      simp only [inB]
      rw [Bool.and_eq_false_iff]
      left
      simp only [Bool.and_eq_false_iff, decide_eq_false_iff_not]
      omega
    · simp [inB, in_zero (ys := ys) h0]
theorem in_len : ∀ {xs ys : List Int}, ys.length ≠ xs.length → inB xs ys = false
  | [], [], h => absurd rfl h
  | [], _ :: _, _ => rfl
  | _ :: _, [], _ => rfl
  | x :: xs, a :: ys, h => by simp [inB, in_len (xs := xs) (ys := ys) (by simpa using h)]

theorem right_iff {xs : List Int} : rightB xs = true ↔ xs.length ≤ 16 ∧ xs.all okI = true ∧ prodN (toN xs) ≤ 1048576 := by simp [rightB]
theorem drop_at {α : Type} {xs : List α} {k : Nat} (d : α) (h : k < xs.length) : xs.drop k = xs.getD k d :: xs.drop (k + 1) := by
  rw [List.drop_eq_getElem_cons h]
  simp [List.getD, h]
end Go.Proofs.Ytfdlngcaopcaoaa
