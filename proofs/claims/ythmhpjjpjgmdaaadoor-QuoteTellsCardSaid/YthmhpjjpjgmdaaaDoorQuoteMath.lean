/-
  Signs in quotes, as plain functions. Nothing is claimed here by itself.
-/
import Derived.Test.YthmhpjjpjgmdaaaDoorUtf
namespace Go.Proofs.YthmhpjjpjgmdaaaDoor
set_option maxRecDepth 10000
set_option linter.unusedSimpArgs false

/-- a number's bytes in quotes (those of a quote twice) -/
def qC (c : Nat) : List UInt8 := if c = 39 then [39, 39] else bytesD c
/-- signs' bytes in quotes, without the quotes around them -/
def qT : List Nat → List UInt8
  | [] => []
  | c :: t => qC c ++ qT t
/-- signs in quotes -/
def inQ (cs : List Nat) : List UInt8 := 39 :: (qT cs ++ [39])
/-- the sign that stands first inside of quotes, and how many bytes it takes (0: there is none) -/
def fstQ : List UInt8 → Nat × Nat
  | [] => (0, 0)
  | b :: r => if b = 39 then (if r.head? = some 39 then (39, 2) else (0, 0)) else nextD (b :: r)
/-- the signs inside of quotes, and what is left, read with so much breath -/
def bodyF : Nat → List UInt8 → List Nat × List UInt8
  | 0, l => ([], l)
  | k + 1, l => if (fstQ l).2 = 0 then ([], l) else ((fstQ l).1 :: (bodyF k (l.drop (fstQ l).2)).1, (bodyF k (l.drop (fstQ l).2)).2)
def bodyD (l : List UInt8) : List Nat × List UInt8 := bodyF (l.length + 1) l
/-- what is read behind the first quote -/
def endQ (p : List Nat × List UInt8) : Option (List Nat × List UInt8) :=
  match p.2 with
  | b :: r => if b = 39 then some (p.1, r) else none
  | [] => none
/-- what is read -/
def readQ : List UInt8 → Option (List Nat × List UInt8)
  | b :: r => if b = 39 then endQ (bodyD r) else none
  | [] => none

theorem fstQ_cons (b : UInt8) (r : List UInt8) : fstQ (b :: r) = if b = 39 then (if r.head? = some 39 then (39, 2) else (0, 0)) else nextD (b :: r) := rfl
theorem bodyF_succ (k : Nat) (l : List UInt8) : bodyF (k + 1) l = if (fstQ l).2 = 0 then ([], l) else ((fstQ l).1 :: (bodyF k (l.drop (fstQ l).2)).1, (bodyF k (l.drop (fstQ l).2)).2) := rfl
theorem readQ_cons (b : UInt8) (r : List UInt8) : readQ (b :: r) = if b = 39 then endQ (bodyD r) else none := rfl
theorem endQ_cons (cs : List Nat) (b : UInt8) (r : List UInt8) : endQ (cs, b :: r) = if b = 39 then some (cs, r) else none := rfl
theorem bytes39 : bytesD 39 = [39] := by decide
theorem qC_39 : qC 39 = [39, 39] := rfl
theorem qC_other {c : Nat} (h : c ≠ 39) : qC c = bytesD c := by unfold qC; rw [if_neg h]
theorem qC_pos {c : Nat} (h : isSign c = true) : 1 ≤ (qC c).length := by
  unfold qC
  split
  · simp
  · exact bytes_pos h
theorem qC_le (c : Nat) : (qC c).length ≤ 4 := by
  unfold qC
  split
  · simp
  · exact bytes_le c
theorem qT_append (a b : List Nat) : qT (a ++ b) = qT a ++ qT b := by
  induction a with
  | nil => rfl
  | cons c t ih => show qC c ++ qT (t ++ b) = (qC c ++ qT t) ++ qT b; rw [ih, List.append_assoc]
theorem qT_one (c : Nat) : qT [c] = qC c := by show qC c ++ [] = _; rw [List.append_nil]
theorem qT_le (cs : List Nat) : (qT cs).length ≤ 4 * cs.length := by
  induction cs with
  | nil => simp [qT]
  | cons c t ih =>
    have := qC_le c
    show (qC c ++ qT t).length ≤ _
    rw [List.length_append, List.length_cons]
    omega
theorem inQ_len (cs : List Nat) : (inQ cs).length = (qT cs).length + 2 := by unfold inQ; simp
theorem inQ_join (a b : List Nat) : inQ a ++ inQ b = inQ (a ++ 39 :: b) := by
  unfold inQ
  rw [qT_append]
  show _ = 39 :: (qT a ++ (qC 39 ++ qT b) ++ [39])
  rw [qC_39]
  simp

theorem fst_of {c : Nat} (h : isSign c = true) (r : List UInt8) : fstQ (qC c ++ r) = (c, (qC c).length) := by
  by_cases h39 : c = 39
  · subst h39
    rfl
  · rw [qC_other h39, ← next_bytes h r]
    have hp := bytes_pos h
    cases hb : bytesD c with
    | nil => rw [hb] at hp; simp at hp
    | cons b t =>
      show fstQ (b :: (t ++ r)) = _
      rw [fstQ_cons, if_neg, List.cons_append]
      rintro rfl
      have hn := next_bytes h r
      rw [hb, List.cons_append, next_one (by decide)] at hn
      exact h39 (Prod.mk.inj hn).1.symm
theorem fst_one (r : List UInt8) (h : r.head? ≠ some 39) : (fstQ (39 :: r)).2 = 0 := by
  rw [fstQ_cons, if_pos rfl, if_neg h]
theorem fst_le {l : List UInt8} (h : (fstQ l).2 ≠ 0) : isSign (fstQ l).1 = true ∧ qC (fstQ l).1 ++ l.drop (fstQ l).2 = l ∧ (fstQ l).2 = (qC (fstQ l).1).length := by
  cases l with
  | nil => exact absurd rfl h
  | cons b r =>
    by_cases hb : b = 39
    · subst hb
      have e : fstQ (39 :: r) = if r.head? = some 39 then (39, 2) else (0, 0) := by rw [fstQ_cons, if_pos rfl]
      rw [e] at h ⊢
      by_cases hr : r.head? = some 39
      · rw [if_pos hr]
        cases r with
        | nil => cases hr
        | cons x t =>
          have hx : x = 39 := by simpa using hr
          subst hx
          exact ⟨rfl, rfl, rfl⟩
      · rw [if_neg hr] at h
        exact absurd rfl h
    · have e : fstQ (b :: r) = nextD (b :: r) := by rw [fstQ_cons, if_neg hb]
      rw [e] at h ⊢
      obtain ⟨h1, h2, h3⟩ := next_inv h
      have hn : (nextD (b :: r)).1 ≠ 39 := by
        intro e
        rw [e, bytes39] at h2
        have := (List.cons.inj h2).1
        exact hb this.symm
      rw [qC_other hn]
      exact ⟨h1, h2, h3⟩
theorem fst_drop {l : List UInt8} (h : (fstQ l).2 ≠ 0) : (fstQ l).2 ≤ l.length ∧ (l.drop (fstQ l).2).length < l.length := by
  obtain ⟨h1, h2, h3⟩ := fst_le h
  have hp := qC_pos h1
  have := congrArg List.length h2
  rw [List.length_append, List.length_drop] at this
  rw [List.length_drop]
  omega

theorem bodyF_enough : ∀ (k : Nat) (l : List UInt8), l.length < k → bodyF k l = bodyF (l.length + 1) l
  | 0, l, h => by omega
  | k + 1, l, h => by
    rw [bodyF_succ, bodyF_succ]
    by_cases hn : (fstQ l).2 = 0
    · rw [if_pos hn, if_pos hn]
    · rw [if_neg hn, if_neg hn]
      have hd := (fst_drop hn).2
      rw [bodyF_enough k _ (by omega), bodyF_enough l.length _ hd]
theorem body_stop {l : List UInt8} (h : (fstQ l).2 = 0) : bodyD l = ([], l) := by
  unfold bodyD
  rw [bodyF_succ, if_pos h]
theorem body_step {l : List UInt8} (h : (fstQ l).2 ≠ 0) : bodyD l = ((fstQ l).1 :: (bodyD (l.drop (fstQ l).2)).1, (bodyD (l.drop (fstQ l).2)).2) := by
  have e : bodyD l = if (fstQ l).2 = 0 then ([], l) else ((fstQ l).1 :: (bodyF l.length (l.drop (fstQ l).2)).1, (bodyF l.length (l.drop (fstQ l).2)).2) := rfl
  rw [e, if_neg h, bodyF_enough l.length _ (fst_drop h).2]
  rfl
theorem body_text : ∀ {cs : List Nat}, (∀ c ∈ cs, isSign c = true) → ∀ (r : List UInt8), (fstQ r).2 = 0 → bodyD (qT cs ++ r) = (cs, r)
  | [], _, r, h => body_stop h
  | c :: t, hc, r, h => by
    have hs := hc c (by simp)
    have hf := fst_of hs (qT t ++ r)
    have hp := qC_pos hs
    show bodyD ((qC c ++ qT t) ++ r) = _
    rw [List.append_assoc, body_step (by rw [hf]; simp only; omega), hf]
    simp only
    rw [List.drop_left, body_text (fun d hd => hc d (by simp [hd])) r h]
theorem body_inv : ∀ (n : Nat) {l : List UInt8}, l.length ≤ n → (∀ c ∈ (bodyD l).1, isSign c = true) ∧ qT (bodyD l).1 ++ (bodyD l).2 = l ∧ (fstQ (bodyD l).2).2 = 0 := by
  intro n
  induction n with
  | zero =>
    intro l hl
    have : l = [] := List.eq_nil_of_length_eq_zero (by omega)
    subst this
    exact ⟨fun c hc => absurd hc (by simp [bodyD, bodyF, fstQ]), rfl, rfl⟩
  | succ n ih =>
    intro l hl
    by_cases h : (fstQ l).2 = 0
    · rw [body_stop h]
      exact ⟨fun c hc => absurd hc (by simp), rfl, h⟩
    · obtain ⟨h1, h2, h3⟩ := fst_le h
      obtain ⟨i1, i2, i3⟩ := ih (l := l.drop (fstQ l).2) (by have := (fst_drop h).2; omega)
      rw [body_step h]
      refine ⟨fun c hc => ?_, ?_, i3⟩
      · rcases List.mem_cons.1 hc with rfl | hc
        · exact h1
        · exact i1 c hc
      · show (qC (fstQ l).1 ++ qT (bodyD (l.drop (fstQ l).2)).1) ++ (bodyD (l.drop (fstQ l).2)).2 = l
        rw [List.append_assoc, i2, h2]

/-- signs in quotes are read as the signs, with what follows, if that begins with no quote -/
theorem read_of {cs : List Nat} (h : ∀ c ∈ cs, isSign c = true) {r : List UInt8} (hr : r.head? ≠ some 39) : readQ (inQ cs ++ r) = some (cs, r) := by
  have e : inQ cs ++ r = 39 :: (qT cs ++ 39 :: r) := by unfold inQ; simp
  rw [e]
  rw [readQ_cons, if_pos rfl, body_text h _ (fst_one r hr), endQ_cons, if_pos rfl]
/-- what is read was written so -/
theorem read_inv {l r : List UInt8} {cs : List Nat} (h : readQ l = some (cs, r)) : (∀ c ∈ cs, isSign c = true) ∧ inQ cs ++ r = l ∧ r.head? ≠ some 39 := by
  cases l with
  | nil => cases h
  | cons b t =>
    rw [readQ_cons] at h
    by_cases hb : b = 39
    · subst hb
      rw [if_pos rfl] at h
      obtain ⟨i1, i2, i3⟩ := body_inv t.length (l := t) (Nat.le_refl _)
      cases hq : (bodyD t).2 with
      | nil =>
        have e : bodyD t = ((bodyD t).1, []) := Prod.ext rfl hq
        rw [e] at h
        cases h
      | cons x u =>
        have e : bodyD t = ((bodyD t).1, x :: u) := Prod.ext rfl hq
        rw [e, endQ_cons] at h
        rw [hq] at i2 i3
        by_cases hx : x = 39
        · subst hx
          rw [if_pos rfl] at h
          have h' := Option.some.inj h
          have e1 : (bodyD t).1 = cs := (Prod.mk.inj h').1
          have e2 : u = r := (Prod.mk.inj h').2
          subst e2
          rw [e1] at i1 i2
          refine ⟨i1, ?_, ?_⟩
          · rw [← i2]; unfold inQ; simp
          · intro hu
            rw [fstQ_cons, if_pos rfl, if_pos hu] at i3
            cases i3
        · rw [if_neg hx] at h; cases h
    · rw [if_neg hb] at h; cases h

/-- the document's own way: the bytes up to a quote that stands alone (a quote twice is one), and what follows -/
def scanQ : List UInt8 → Option (List UInt8 × List UInt8)
  | [] => none
  | b :: r => if b = 39 then (match r with
      | x :: t => if x = 39 then (scanQ t).map (fun p => (39 :: p.1, p.2)) else some ([], x :: t)
      | [] => some ([], []))
    else (scanQ r).map (fun p => (b :: p.1, p.2))
def refQ (l : List UInt8) : Option (List Nat × List UInt8) := (scanQ l).bind fun p => (signsD p.1).map fun cs => (cs, p.2)
/-- each quote twice -/
def dbl : List UInt8 → List UInt8
  | [] => []
  | b :: r => if b = 39 then 39 :: 39 :: dbl r else b :: dbl r
theorem dbl_cons (b : UInt8) (r : List UInt8) : dbl (b :: r) = if b = 39 then 39 :: 39 :: dbl r else b :: dbl r := rfl
theorem scan_other {b : UInt8} {r : List UInt8} (h : b ≠ 39) : scanQ (b :: r) = (scanQ r).map (fun p => (b :: p.1, p.2)) := by
  rw [scanQ.eq_def]
  simp only
  rw [if_neg h]
theorem scan_two (t : List UInt8) : scanQ (39 :: 39 :: t) = (scanQ t).map (fun p => (39 :: p.1, p.2)) := by
  rw [scanQ.eq_def]
  simp
theorem scan_end {r : List UInt8} (h : r.head? ≠ some 39) : scanQ (39 :: r) = some ([], r) := by
  rw [scanQ.eq_def]
  cases r with
  | nil => simp
  | cons x t =>
    have hx : x ≠ 39 := by simpa using h
    simp [hx]
theorem scan_of : ∀ (x : List UInt8) {r : List UInt8}, r.head? ≠ some 39 → scanQ (dbl x ++ 39 :: r) = some (x, r)
  | [], r, h => scan_end h
  | b :: t, r, h => by
    rw [dbl_cons]
    by_cases hb : b = 39
    · subst hb
      rw [if_pos rfl]
      show scanQ (39 :: 39 :: (dbl t ++ 39 :: r)) = _
      rw [scan_two, scan_of t h]
      rfl
    · rw [if_neg hb]
      show scanQ (b :: (dbl t ++ 39 :: r)) = _
      rw [scan_other hb, scan_of t h]
      rfl
theorem scan_inv : ∀ (n : Nat) {l x r : List UInt8}, l.length ≤ n → scanQ l = some (x, r) → dbl x ++ 39 :: r = l ∧ r.head? ≠ some 39 := by
  intro n
  induction n with
  | zero =>
    intro l x r hl h
    have : l = [] := List.eq_nil_of_length_eq_zero (by omega)
    subst this
    rw [scanQ.eq_def] at h
    cases h
  | succ n ih =>
    intro l x r hl h
    cases l with
    | nil => rw [scanQ.eq_def] at h; cases h
    | cons b t =>
      have hlt : t.length ≤ n := by simpa using hl
      by_cases hb : b = 39
      · subst hb
        by_cases ht : t.head? = some 39
        · cases t with
          | nil => cases ht
          | cons y u =>
            have hy : y = 39 := by simpa using ht
            subst hy
            rw [scan_two] at h
            cases hs : scanQ u with
            | none => rw [hs] at h; cases h
            | some p =>
              rw [hs] at h
              have h' := Option.some.inj h
              have e1 := (Prod.mk.inj h').1
              have e2 := (Prod.mk.inj h').2
              subst e1 e2
              obtain ⟨i1, i2⟩ := ih (l := u) (x := p.1) (r := p.2) (by simp only [List.length_cons] at hlt; omega) hs
              refine ⟨?_, i2⟩
              show 39 :: 39 :: (dbl p.1 ++ 39 :: p.2) = _
              rw [i1]
        · rw [scan_end ht] at h
          have h' := Option.some.inj h
          have e1 := (Prod.mk.inj h').1
          have e2 := (Prod.mk.inj h').2
          subst e1 e2
          exact ⟨rfl, ht⟩
      · rw [scan_other hb] at h
        cases hs : scanQ t with
        | none => rw [hs] at h; cases h
        | some p =>
          rw [hs] at h
          have h' := Option.some.inj h
          have e1 := (Prod.mk.inj h').1
          have e2 := (Prod.mk.inj h').2
          subst e1 e2
          obtain ⟨i1, i2⟩ := ih (l := t) (x := p.1) (r := p.2) hlt hs
          refine ⟨?_, i2⟩
          rw [dbl_cons, if_neg hb]
          show b :: (dbl p.1 ++ 39 :: p.2) = _
          rw [i1]
theorem dbl_append (a b : List UInt8) : dbl (a ++ b) = dbl a ++ dbl b := by
  induction a with
  | nil => rfl
  | cons c t ih =>
    rw [List.cons_append, dbl_cons, dbl_cons]
    split
    · rw [ih]; simp
    · rw [ih]; simp
theorem dbl_none {l : List UInt8} (h : ∀ b ∈ l, b ≠ 39) : dbl l = l := by
  induction l with
  | nil => rfl
  | cons b t ih =>
    rw [dbl_cons, if_neg (h b (by simp)), ih (fun c hc => h c (by simp [hc]))]
theorem ne39 {n : Nat} (h : n < 256) (h2 : n ≠ 39) : UInt8.ofNat n ≠ 39 := by
  intro e
  have := congrArg UInt8.toNat e
  rw [u8_nat h] at this
  exact h2 this
theorem bytes_none {c : Nat} (h : c ≠ 39) : ∀ b ∈ bytesD c, b ≠ 39 := by
  intro b hb
  unfold bytesD at hb
  split at hb
  · rename_i hs
    have hs := isSign_iff.1 hs
    split at hb
    · simp only [List.mem_cons, List.not_mem_nil, or_false] at hb
      subst hb
      exact ne39 (by omega) h
    · split at hb
      · simp only [List.mem_cons, List.not_mem_nil, or_false] at hb
        rcases hb with rfl | rfl <;> exact ne39 (by omega) (by omega)
      · split at hb
        · simp only [List.mem_cons, List.not_mem_nil, or_false] at hb
          rcases hb with rfl | rfl | rfl <;> exact ne39 (by omega) (by omega)
        · simp only [List.mem_cons, List.not_mem_nil, or_false] at hb
          rcases hb with rfl | rfl | rfl | rfl <;> exact ne39 (by omega) (by omega)
  · simp at hb
theorem dbl_bytes (c : Nat) : dbl (bytesD c) = qC c := by
  by_cases h : c = 39
  · subst h; decide
  · rw [qC_other h, dbl_none (bytes_none h)]
theorem dbl_text (cs : List Nat) : dbl (textD cs) = qT cs := by
  induction cs with
  | nil => rfl
  | cons c t ih =>
    show dbl (bytesD c ++ textD t) = qC c ++ qT t
    rw [dbl_append, dbl_bytes, ih]
/-- what the document's own way comes to -/
theorem read_ref (l : List UInt8) : endQ (bodyD l) = refQ l := by
  have hA : ∀ p, readQ (39 :: l) = some p ↔ refQ l = some p := by
    rintro ⟨cs, r⟩
    constructor
    · intro h
      obtain ⟨h1, h2, h3⟩ := read_inv h
      have e : dbl (textD cs) ++ 39 :: r = l := by
        rw [dbl_text]
        have : inQ cs ++ r = 39 :: (qT cs ++ 39 :: r) := by unfold inQ; simp
        rw [this] at h2
        exact (List.cons.inj h2).2
      unfold refQ
      rw [← e, scan_of _ h3]
      simp [signs_of h1]
    · intro h
      unfold refQ at h
      cases hs : scanQ l with
      | none => rw [hs] at h; cases h
      | some p =>
        rw [hs] at h
        simp only [Option.bind_some] at h
        cases hg : signsD p.1 with
        | none => rw [hg] at h; cases h
        | some ds =>
          rw [hg] at h
          have h' := Option.some.inj h
          have e1 := (Prod.mk.inj h').1
          have e2 := (Prod.mk.inj h').2
          subst e1 e2
          obtain ⟨k1, k2⟩ := signs_inv hg
          obtain ⟨i1, i2⟩ := scan_inv l.length (l := l) (x := p.1) (r := p.2) (Nat.le_refl _) hs
          have e : 39 :: l = inQ ds ++ p.2 := by
            rw [← i1, ← k2, dbl_text]
            unfold inQ
            simp
          rw [e]
          exact read_of k1 i2
  have hB : readQ (39 :: l) = endQ (bodyD l) := by rw [readQ_cons, if_pos rfl]
  rw [hB] at hA
  cases h1 : endQ (bodyD l) with
  | some p => exact ((hA p).1 h1).symm
  | none =>
    cases h2 : refQ l with
    | none => rfl
    | some p => rw [(hA p).2 h2] at h1; cases h1

/-- signs that came in as whole numbers -/
def signZ (x : Int) : Bool := decide (0 ≤ x ∧ x ≤ 1114111 ∧ ¬ (55296 ≤ x ∧ x ≤ 57343))
def natsZ (xs : List Int) : List Nat := xs.map Int.toNat
def intsZ (cs : List Nat) : List Int := cs.map fun (c : Nat) => (c : Int)
theorem signZ_iff {x : Int} : signZ x = true ↔ 0 ≤ x ∧ x ≤ 1114111 ∧ ¬ (55296 ≤ x ∧ x ≤ 57343) := by simp only [signZ, decide_eq_true_eq]
theorem signZ_nat {x : Int} (h : signZ x = true) : isSign x.toNat = true ∧ ((x.toNat : Nat) : Int) = x := by
  have := signZ_iff.1 h
  exact ⟨isSign_iff.2 ⟨by omega, by omega⟩, by omega⟩
theorem signZ_of {c : Nat} (h : isSign c = true) : signZ (c : Int) = true := by
  have := isSign_iff.1 h
  exact signZ_iff.2 ⟨by omega, by omega, by omega⟩
theorem nats_ints (cs : List Nat) : natsZ (intsZ cs) = cs := by simp [natsZ, intsZ, Function.comp_def]
theorem ints_nats {xs : List Int} (h : xs.all signZ = true) : intsZ (natsZ xs) = xs := by
  induction xs with
  | nil => rfl
  | cons x t ih =>
    rw [List.all_cons, Bool.and_eq_true] at h
    show ((x.toNat : Nat) : Int) :: intsZ (natsZ t) = _
    rw [(signZ_nat h.1).2, ih h.2]
theorem nats_sign {xs : List Int} (h : xs.all signZ = true) : ∀ c ∈ natsZ xs, isSign c = true := by
  intro c hc
  obtain ⟨x, hx, rfl⟩ := List.mem_map.1 hc
  exact (signZ_nat (List.all_eq_true.1 h x hx)).1
theorem all_ints {cs : List Nat} (h : ∀ c ∈ cs, isSign c = true) : (intsZ cs).all signZ = true := by
  rw [List.all_eq_true]
  intro x hx
  obtain ⟨c, hc, rfl⟩ := List.mem_map.1 hx
  exact signZ_of (h c hc)
theorem nats_append (a b : List Int) : natsZ (a ++ b) = natsZ a ++ natsZ b := by simp [natsZ]
theorem ints_append (a b : List Nat) : intsZ (a ++ b) = intsZ a ++ intsZ b := by simp [intsZ]
theorem nats_len (xs : List Int) : (natsZ xs).length = xs.length := by simp [natsZ]
theorem ints_len (cs : List Nat) : (intsZ cs).length = cs.length := by simp [intsZ]
/-- what Text answers -/
def textQ (xs : List Int) : List UInt8 := if xs.all signZ = true then inQ (natsZ xs) else []
end Go.Proofs.YthmhpjjpjgmdaaaDoor
