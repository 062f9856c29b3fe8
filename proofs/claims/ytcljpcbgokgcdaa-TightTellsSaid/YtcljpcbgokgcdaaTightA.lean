/-
  Tight, TightB, TightC, one behind the other.
-/
import Derived.Test.YtcljpcbgokgcdaaMathA
import Derived.Test.YtcljpcbgokgcdaaRNormsA
section
/-
  Tight forms, as lists: what they are, that they are arrays, no greater than they were, and their own. Nothing is claimed here by itself.
-/
namespace Go.Proofs.Ytcljpcbgokgcdaa
set_option linter.unusedVariables false
set_option linter.unusedSimpArgs false

def ofD (v : Int) : Int × Int := (norm v 0).1
def whlB (x : Int × Int) : Bool := (wholeD x.1 x.2).2
def whlV (x : Int × Int) : Int := (wholeD x.1 x.2).1
def kindI (xs : List Int) : Int := if xs.length = 0 ∨ xs.all bitB = false then 2 else 1
/-- the array of these numbers -/
def leastN (s : List Int) (l : List (Int × Int)) : Nd := if l.all whlB = true then ⟨kindI (l.map whlV), s, l.map whlV, []⟩ else ⟨4, s, [], l⟩
def valsN (n : Nd) : List (Int × Int) := n.ints.map ofD ++ n.decs
def valsK (ns : List Nd) : List (Int × Int) := ns.flatMap valsN
def intsK (ns : List Nd) : List Int := ns.flatMap Nd.ints
def deepB (n : Nd) : Bool := n.kind == 5 || decide (0 < n.shp.length)
def signN (n : Nd) : Bool := n.kind == 3
def numN (n : Nd) : Bool := !signN n
def joinO (s : List Int) (ks : List Nd) : Option Nd :=
  if (ks.any deepB || (ks.any signN && ks.any numN)) = true then none
  else if ks.any signN = true then some ⟨3, s, intsK ks, []⟩ else some (leastN s (valsK ks))
def foldO (n : Nd) (ks : List Nd) : Option Nd :=
  if n.kind = 3 then some n else if n.kind = 5 then joinO n.shp ks else some (leastN n.shp (valsN n))
def clos (n : Nd) (ks : List Nd) : List Nd := match foldO n ks with
  | some m => [m]
  | none => n :: ks
def catF (p : List Nd → Option St) (f : List Nd → List Nd) : Nat → List Nd → List Nd
  | 0, _ => []
  | j + 1, l => catF p f j l ++ match parK p j l with
    | some t => f (l.drop t.n)
    | none => []
def formF : Nat → List Nd → List Nd
  | 0, _ => []
  | _ + 1, [] => []
  | d + 1, n :: l => clos n (catF (par d) (formF d) (kc n) l)
def formA (l : List Nd) : List Nd := formF 16 l

theorem formF_cons (d : Nat) (n : Nd) (l : List Nd) : formF (d + 1) (n :: l) = clos n (catF (par d) (formF d) (kc n) l) := rfl
theorem catF_zero (p : List Nd → Option St) (f : List Nd → List Nd) (l : List Nd) : catF p f 0 l = [] := rfl
theorem catF_succ {p : List Nd → Option St} {f : List Nd → List Nd} {j : Nat} {l : List Nd} {t : St} (h : parK p j l = some t) : catF p f (j + 1) l = catF p f j l ++ f (l.drop t.n) := by
  show catF p f j l ++ _ = _
  rw [h]

/-- what stands behind does not matter, nor more depth -/
theorem catF_local {p : List Nd → Option St} {f : List Nd → List Nd} (hp : ∀ l s, p l = some s → ∀ r : List Nd, r.take s.n = l.take s.n → p r = some s)
    (hf : ∀ l s, p l = some s → ∀ r : List Nd, r.take s.n = l.take s.n → f r = f l) :
    ∀ {c : Nat} {l : List Nd} {t : St}, parK p c l = some t → ∀ r : List Nd, r.take t.n = l.take t.n → catF p f c r = catF p f c l
  | 0, l, t, h, r, hr => rfl
  | c + 1, l, t, h, r, hr => by
    obtain ⟨a, b, ha, hb, rfl⟩ := parK_some h
    obtain ⟨h1, h2⟩ := take_part (a := a.n) (b := b.n) hr
    rw [catF_succ ha, catF_succ (parK_local hp ha r h1), catF_local hp hf ha r h1, hf _ _ hb _ h2]
theorem formF_local : ∀ {d : Nat} {l : List Nd} {s : St}, par d l = some s → ∀ r : List Nd, r.take s.n = l.take s.n → formF d r = formF d l
  | 0, l, s, h, _, _ => by cases h
  | d + 1, l, s, h, r, hr => by
    obtain ⟨e, n, l', t, he, rfl, hn, ht, rfl⟩ := par_parts h
    obtain rfl : d = e := by omega
    cases r with
    | nil => simp [top] at hr
    | cons n' r' =>
      simp only [top, List.take_succ_cons, List.cons.injEq] at hr
      obtain ⟨rfl, hr⟩ := hr
      rw [formF_cons, formF_cons, catF_local (fun l s h => par_local h) (fun l s h => formF_local h) ht r' hr]
theorem formF_app {d : Nat} {l : List Nd} {s : St} (h : par d l = some s) (r : List Nd) : formF d (l ++ r) = formF d l :=
  formF_local h _ (by rw [List.take_append_of_le_length (par_len h).2.1])
theorem formF_take {d : Nat} {l : List Nd} {s : St} (h : par d l = some s) {k : Nat} (hk : s.n ≤ k) : formF d (l.take k) = formF d l :=
  formF_local h _ (by rw [List.take_take]; congr 1; omega)
theorem catF_depth {p q : List Nd → Option St} {f g : List Nd → List Nd} {e : Nat} (hp : ∀ l s, p l = some s → s.d ≤ e → q l = some s) (hf : ∀ l s, p l = some s → s.d ≤ e → g l = f l) :
    ∀ {c : Nat} {l : List Nd} {t : St}, parK p c l = some t → t.d ≤ e → catF q g c l = catF p f c l
  | 0, l, t, h, _ => rfl
  | c + 1, l, t, h, hd => by
    obtain ⟨a, b, ha, hb, rfl⟩ := parK_some h
    simp only [St.plus] at hd
    rw [catF_succ ha, catF_succ (parK_depth hp ha (by omega)), catF_depth hp hf ha (by omega), hf _ _ hb (by omega)]
theorem formF_depth : ∀ {d : Nat} {l : List Nd} {s : St}, par d l = some s → ∀ e, s.d ≤ e → formF e l = formF d l
  | 0, l, s, h, _, _ => by cases h
  | d + 1, l, s, h, e, he => by
    obtain ⟨d', n, l', t, hd, rfl, hn, ht, rfl⟩ := par_parts h
    obtain rfl : d = d' := by omega
    simp only [top] at he
    cases e with
    | zero => omega
    | succ e => rw [formF_cons, formF_cons, catF_depth (fun l s h hs => par_depth h e hs) (fun l s h hs => formF_depth h e hs) ht (by omega)]

/-- what may be gone over -/
def Vals (ns : List Nd) : Prop := ∀ n ∈ ns, ∀ x ∈ n.ints, In x
theorem Vals.take {ns : List Nd} (h : Vals ns) (k : Nat) : Vals (ns.take k) := fun n hn => h n (List.mem_of_mem_take hn)
theorem Vals.drop {ns : List Nd} (h : Vals ns) (k : Nat) : Vals (ns.drop k) := fun n hn => h n (List.mem_of_mem_drop hn)
theorem Vals.app {a b : List Nd} (h : Vals a) (k : Vals b) : Vals (a ++ b) := fun n hn => by
  rcases List.mem_append.1 hn with hn | hn
  · exact h n hn
  · exact k n hn
theorem Fits.app {a b : List Nd} (h : Fits a) (k : Fits b) : Fits (a ++ b) := fun n hn => by
  rcases List.mem_append.1 hn with hn | hn
  · exact h n hn
  · exact k n hn
def Fine (l : List Nd) : Prop := l.length ≤ 1100000 ∧ Fits l ∧ Vals l
theorem Fine.drop {l : List Nd} (h : Fine l) (k : Nat) : Fine (l.drop k) := ⟨by rw [List.length_drop]; have := h.1; omega, h.2.1.drop k, h.2.2.drop k⟩
theorem Fine.take {l : List Nd} (h : Fine l) (k : Nat) : Fine (l.take k) := ⟨by rw [List.length_take]; have := h.1; omega, h.2.1.take k, h.2.2.take k⟩
theorem Fine.cons {n : Nd} {l : List Nd} (h : Fine (n :: l)) : Fit n ∧ (∀ x ∈ n.ints, In x) ∧ Fine l :=
  ⟨h.2.1 n (by simp), h.2.2 n (by simp), by simpa using h.drop 1⟩

/-- numbers -/
theorem of_facts {v : Int} (hv : In v) : In (ofD v).1 ∧ In (ofD v).2 ∧ decB (ofD v) = true ∧ whlB (ofD v) = true ∧ whlV (ofD v) = v := by
  obtain ⟨q, j, h, h1, h2, h3, h4⟩ := of_parts hv
  have e : ofD v = (q, j) := by unfold ofD; rw [h]
  rw [e]
  refine ⟨h1, h2, h3, ?_, ?_⟩
  · unfold whlB; rw [h4]
  · unfold whlV; rw [h4]
theorem whlV_in (x : Int × Int) : In (whlV x) := by
  unfold whlV wholeD
  split
  · rename_i h; exact h.2.2
  · exact ⟨by decide, by decide⟩
theorem of_all {l : List Int} (h : ∀ x ∈ l, In x) : (l.map ofD).all whlB = true ∧ (l.map ofD).map whlV = l ∧ (l.map ofD).all decB = true := by
  induction l with
  | nil => exact ⟨rfl, rfl, rfl⟩
  | cons x l ih =>
    obtain ⟨h1, h2, h3⟩ := ih fun y hy => h y (by simp [hy])
    obtain ⟨_, _, k1, k2, k3⟩ := of_facts (h x (by simp))
    refine ⟨?_, ?_, ?_⟩
    · rw [List.map_cons, List.all_cons, k2, h1]; rfl
    · rw [List.map_cons, List.map_cons, k3, h2]
    · rw [List.map_cons, List.all_cons, k1, h3]; rfl
theorem kindI_is (xs : List Int) : (kindI xs = 2 ∨ kindI xs = 1) ∧ (kindI xs = 1 → xs.all bitB = true) := by
  unfold kindI
  split
  · exact ⟨.inl rfl, fun h => by cases h⟩
  · rename_i h
    refine ⟨.inr rfl, fun _ => ?_⟩
    cases hb : xs.all bitB with
    | true => rfl
    | false => exact absurd (.inr hb) h
theorem in4 : In 4 := ⟨by decide, by decide⟩
/-- the array of numbers is a right node, of that shape -/
theorem least_facts {s : List Int} {l : List (Int × Int)} (hs : rightB s = true) (hc : cnt s = l.length) (hd : l.all decB = true) (hi : ∀ x ∈ l, In x.1 ∧ In x.2) (hl : l.length ≤ 1100000) :
    okB (leastN s l) = true ∧ (leastN s l).shp = s ∧ (leastN s l).kind ≠ 3 ∧ (leastN s l).kind ≠ 5 ∧ Fit (leastN s l) ∧ (∀ x ∈ (leastN s l).ints, In x) ∧ leastN s (valsN (leastN s l)) = leastN s l ∧ In (leastN s l).kind := by
  have hs16 : s.length ≤ 1100000 := by have := (right_iff.1 hs).1; omega
  cases hw : l.all whlB with
  | true =>
    have hL : leastN s l = ⟨kindI (l.map whlV), s, l.map whlV, []⟩ := by unfold leastN; rw [if_pos hw]
    rw [hL]
    obtain ⟨hk, hk1⟩ := kindI_is (l.map whlV)
    have hin : ∀ x ∈ l.map whlV, In x := fun x hx => by
      obtain ⟨y, _, rfl⟩ := List.mem_map.1 hx
      exact whlV_in y
    have hkin : In (kindI (l.map whlV)) := by rcases hk with h | h <;> rw [h] <;> exact ⟨by decide, by decide⟩
    obtain ⟨a1, a2, a3⟩ := of_all hin
    refine ⟨?_, rfl, ?_, ?_, ⟨hkin, hs16, ?_, Nat.zero_le _, fun x hx => by cases hx⟩, hin, ?_, hkin⟩
    · unfold okB fillB
      dsimp only
      rw [hs, hc]
      rcases hk with h | h
      · simp [h]
      · have := hk1 h
        rw [this]
        simp [h]
    · rcases hk with h | h <;> simp [h]
    · rcases hk with h | h <;> simp [h]
    · simpa using hl
    · have e : valsN ⟨kindI (l.map whlV), s, l.map whlV, []⟩ = (l.map whlV).map ofD := by simp [valsN]
      rw [e]
      unfold leastN
      rw [if_pos a1, a2]
  | false =>
    have hL : leastN s l = ⟨4, s, [], l⟩ := by unfold leastN; rw [hw, if_neg (by decide)]
    rw [hL]
    refine ⟨?_, rfl, by simp, by simp, ⟨in4, hs16, Nat.zero_le _, hl, hi⟩, fun x hx => (by cases hx), ?_, in4⟩
    · unfold okB fillB
      dsimp only
      rw [hs, hc, hd]
      simp
    · have e : valsN ⟨4, s, [], l⟩ = l := by simp [valsN]
      rw [e, hL]
theorem ok_right {n : Nd} (h : okB n = true) : rightB n.shp = true ∧ fillB n (cnt n.shp) = true := by
  simp only [okB, Bool.and_eq_true] at h
  exact h
/-- a right node's numbers are right -/
theorem vals_ok {n : Nd} (h : okB n = true) (hk : n.kind ≠ 3) (hf : Fit n) (hv : ∀ x ∈ n.ints, In x) :
    (valsN n).all decB = true ∧ (∀ x ∈ valsN n, In x.1 ∧ In x.2) ∧ (valsN n).length ≤ 1100000 ∧ (n.kind ≠ 5 → cnt n.shp = (valsN n).length) := by
  obtain ⟨a1, a2, a3⟩ := of_all hv
  have hlen : (valsN n).length = n.ints.length + n.decs.length := by simp [valsN]
  have hfl := (ok_right h).2
  have hz : n.decs.all decB = true ∧ (n.ints.length = 0 ∨ n.decs.length = 0) := by
    unfold fillB at hfl
    by_cases h1 : n.kind = 1
    · simp [h1] at hfl; rw [hfl.1.2]; exact ⟨rfl, .inr rfl⟩
    · by_cases h2 : n.kind = 2
      · simp [h2] at hfl; rw [hfl.2]; exact ⟨rfl, .inr rfl⟩
      · by_cases h4 : n.kind = 4
        · simp [h4] at hfl; exact ⟨by simpa using hfl.2, .inl (by rw [hfl.1.1]; rfl)⟩
        · by_cases h5 : n.kind = 5
          · simp [h5] at hfl; rw [hfl.2]; exact ⟨rfl, .inr rfl⟩
          · simp [h1, h2, hk, h4, h5] at hfl
  refine ⟨?_, ?_, ?_, ?_⟩
  · unfold valsN; rw [List.all_append, a3, hz.1]; rfl
  · intro x hx
    rcases List.mem_append.1 hx with hx | hx
    · obtain ⟨y, hy, rfl⟩ := List.mem_map.1 hx
      exact ⟨(of_facts (hv y hy)).1, (of_facts (hv y hy)).2.1⟩
    · exact hf.2.2.2.2 x hx
  · rw [hlen]
    have := hf.2.2.1
    have := hf.2.2.2.1
    rcases hz.2 with h | h <;> omega
  · intro h5
    rw [hlen]
    rcases ok_tot h with ⟨h0, _⟩ | ⟨_, h1, _⟩
    · exact absurd h0 h5
    · exact h1.symm
end Go.Proofs.Ytcljpcbgokgcdaa
end

section
/-
  Tight forms: they are right, no greater, and their own. Nothing is claimed here by itself.
-/
namespace Go.Proofs.Ytcljpcbgokgcdaa
set_option linter.unusedVariables false
set_option linter.unusedSimpArgs false

theorem take_app_part {l : List Nd} {a b : Nat} : l.take (a + b) = l.take a ++ (l.drop a).take b := List.take_add
theorem parK_ok {f : List Nd → Option St} (hf : ∀ l s, f l = some s → ∀ n ∈ l.take s.n, okB n = true) : ∀ {c : Nat} {l : List Nd} {t : St}, parK f c l = some t → ∀ n ∈ l.take t.n, okB n = true
  | 0, l, t, h, n, hn => by rw [parK_zero] at h; cases h; simp [st0] at hn
  | c + 1, l, t, h, n, hn => by
    obtain ⟨a, b, ha, hb, rfl⟩ := parK_some h
    rw [show (a.plus b).n = a.n + b.n from rfl, take_app_part] at hn
    rcases List.mem_append.1 hn with hn | hn
    · exact parK_ok hf ha n hn
    · exact hf _ _ hb n hn
theorem par_ok : ∀ {d : Nat} {l : List Nd} {s : St}, par d l = some s → ∀ n ∈ l.take s.n, okB n = true
  | 0, l, s, h, _, _ => by cases h
  | d + 1, l, s, h, k, hk => by
    obtain ⟨e, n, l', t, he, rfl, hn, ht, rfl⟩ := par_parts h
    obtain rfl : d = e := by omega
    simp only [top, List.take_succ_cons, List.mem_cons] at hk
    rcases hk with rfl | hk
    · exact hn
    · exact parK_ok (fun l s h => par_ok h) ht k hk
theorem par_leaf {d : Nat} {n : Nd} {l : List Nd} {s : St} (h : par d (n :: l) = some s) (hk : n.kind ≠ 5) : s = top n st0 := by
  obtain ⟨e, n', l', t, he, hl, hn, ht, rfl⟩ := par_parts h
  cases hl
  have : kc n = 0 := by simp [kc, hk]
  rw [this, parK_zero] at ht
  cases ht
  rfl
/-- where no node is an array of arrays, each array is one node -/
theorem parK_flat {d : Nat} : ∀ {c : Nat} {l : List Nd} {t : St}, parK (par d) c l = some t → (∀ n ∈ l.take t.n, n.kind ≠ 5) → t.n = c
  | 0, l, t, h, _ => by rw [parK_zero] at h; cases h; rfl
  | c + 1, l, t, h, hk => by
    obtain ⟨a, b, ha, hb, rfl⟩ := parK_some h
    rw [show (a.plus b).n = a.n + b.n from rfl, take_app_part] at hk
    have h1 := parK_flat ha fun n hn => hk n (List.mem_append_left _ hn)
    obtain ⟨e, n', l', t, he, hl, hn, ht, rfl⟩ := par_parts hb
    rw [hl] at hb hk
    have h2 := par_leaf hb (hk n' (List.mem_append_right _ (by simp [top])))
    rw [h2]
    show a.n + 1 = c + 1
    omega

theorem ints_one {n : Nd} (h : okB n = true) (hs : n.shp = []) (hk : n.kind = 3) : n.ints.length = 1 ∧ n.decs = [] ∧ ∀ x ∈ n.ints, signB x = true := by
  have h2 := (ok_right h).2
  rw [hs] at h2
  unfold fillB at h2
  have hc : cnt [] = 1 := by decide
  simp [hk, hc] at h2
  exact ⟨h2.1.1, h2.1.2, h2.2⟩
theorem nil_of_zero {α : Type} {l : List α} (h : ¬ 0 < l.length) : l = [] := List.eq_nil_of_length_eq_zero (by omega)
theorem not_deep {n : Nd} (h : deepB n = false) : n.kind ≠ 5 ∧ n.shp = [] := by
  simp only [deepB, Bool.or_eq_false_iff, decide_eq_false_iff_not, beq_eq_false_iff_ne] at h
  exact ⟨h.1, nil_of_zero h.2⟩
theorem any_false {α : Type} {p : α → Bool} {l : List α} (h : l.any p = false) : ∀ x ∈ l, p x = false := fun x hx => by
  rw [List.any_eq_false] at h
  simpa using h x hx
theorem ints_len {ks : List Nd} (h : ∀ n ∈ ks, okB n = true ∧ n.shp = [] ∧ n.kind = 3) : (intsK ks).length = ks.length ∧ (intsK ks).all signB = true := by
  induction ks with
  | nil => exact ⟨rfl, rfl⟩
  | cons n ks ih =>
    obtain ⟨h1, h2⟩ := ih fun m hm => h m (by simp [hm])
    obtain ⟨k1, k2, k3⟩ := h n (by simp)
    obtain ⟨j1, j2, j3⟩ := ints_one k1 k2 k3
    refine ⟨?_, ?_⟩
    · simp only [intsK, List.flatMap_cons, List.length_append, List.length_cons] at h1 ⊢
      omega
    · simp only [intsK, List.flatMap_cons, List.all_append] at h2 ⊢
      rw [h2]
      simpa using j3
theorem vals_len {ks : List Nd} (h : ∀ n ∈ ks, okB n = true ∧ n.shp = [] ∧ n.kind ≠ 3 ∧ n.kind ≠ 5 ∧ Fit n ∧ ∀ x ∈ n.ints, In x) :
    (valsK ks).length = ks.length ∧ (valsK ks).all decB = true ∧ ∀ x ∈ valsK ks, In x.1 ∧ In x.2 := by
  induction ks with
  | nil => exact ⟨rfl, rfl, fun x hx => by cases hx⟩
  | cons n ks ih =>
    obtain ⟨h1, h2, h3⟩ := ih fun m hm => h m (by simp [hm])
    obtain ⟨k1, k2, k3, k4, k5, k6⟩ := h n (by simp)
    obtain ⟨j1, j2, j3, j4⟩ := vals_ok k1 k3 k5 k6
    have hc := j4 k4
    rw [k2, show cnt [] = 1 by decide] at hc
    refine ⟨?_, ?_, ?_⟩
    · simp only [valsK, List.flatMap_cons, List.length_append, List.length_cons] at h1 ⊢
      omega
    · simp only [valsK, List.flatMap_cons, List.all_append] at h2 ⊢
      rw [h2, j1]; rfl
    · intro x hx
      simp only [valsK, List.flatMap_cons, List.mem_append] at hx
      rcases hx with hx | hx
      · exact j2 x hx
      · exact h3 x hx
def OkOne (n m : Nd) : Prop := okB m = true ∧ m.shp = n.shp ∧ m.kind ≠ 5 ∧ Fit m ∧ (∀ x ∈ m.ints, In x) ∧ foldO m [] = some m
theorem least_one {n : Nd} {l : List (Int × Int)} (hs : rightB n.shp = true) (hc : cnt n.shp = l.length) (hd : l.all decB = true) (hi : ∀ x ∈ l, In x.1 ∧ In x.2) (hl : l.length ≤ 1100000) : OkOne n (leastN n.shp l) := by
  obtain ⟨h1, h2, h3, h4, h5, h6, h7, _⟩ := least_facts hs hc hd hi hl
  refine ⟨h1, h2, h4, h5, h6, ?_⟩
  unfold foldO
  rw [if_neg h3, if_neg h4, h2, h7]
theorem in_sign {x : Int} (h : signB x = true) : In x := by
  simp only [signB, Bool.and_eq_true, decide_eq_true_eq] at h
  exact ⟨by omega, by omega⟩
theorem in3 : In 3 := ⟨by decide, by decide⟩
theorem join_one {d : Nat} {n m : Nd} {ks : List Nd} {u : St} (hn : okB n = true) (hk5 : n.kind = 5) (hp : parK (par d) (kc n) ks = some u) (hu : u.n = ks.length) (hf : Fine ks) (hj : joinO n.shp ks = some m) : OkOne n m := by
  obtain ⟨hs, _⟩ := ok_right hn
  have hkc : kc n = cnt n.shp := by simp [kc, hk5]
  unfold joinO at hj
  split at hj
  · cases hj
  · rename_i hc
    have hc' := Bool.eq_false_iff.2 hc
    rw [Bool.or_eq_false_iff] at hc'
    have hdeep := fun n hn => not_deep (any_false hc'.1 n hn)
    have htk : ks.take u.n = ks := by rw [hu]; exact List.take_length
    have hlen := parK_flat hp (by rw [htk]; exact fun n hn => (hdeep n hn).1)
    have hall := parK_ok (fun l s h => par_ok h) hp
    rw [htk] at hall
    rw [hlen, hkc] at hu
    split at hj
    · rename_i hsg
      cases hj
      have hnum : ks.any numN = false := by
        have := hc'.2
        rw [hsg] at this
        simpa using this
      obtain ⟨h1, h2⟩ := ints_len (ks := ks) fun k hk => ⟨hall k hk, (hdeep k hk).2, by
        have := any_false hnum k hk
        simpa [numN, signN] using this⟩
      refine ⟨?_, rfl, by simp, ⟨in3, by have := (right_iff.1 hs).1; show n.shp.length ≤ 1100000; omega, by show (intsK ks).length ≤ 1100000; have := hf.1; omega, Nat.zero_le _, fun x hx => by cases hx⟩, fun x hx => in_sign (List.all_eq_true.1 h2 x hx), ?_⟩
      · unfold okB fillB
        dsimp only
        rw [hs, hu, h1, h2]
        simp
      · unfold foldO
        rw [if_pos rfl]
    · rename_i hsg
      cases hj
      have hsg' := Bool.eq_false_iff.2 hsg
      obtain ⟨h1, h2, h3⟩ := vals_len (ks := ks) fun k hk => ⟨hall k hk, (hdeep k hk).2, by
        have := any_false hsg' k hk
        simpa [signN] using this, (hdeep k hk).1, hf.2.1 k hk, hf.2.2 k hk⟩
      exact least_one hs (by rw [hu, h1]) h2 h3 (by rw [h1]; exact hf.1)
theorem fold_one {d : Nat} {n m : Nd} {ks : List Nd} {u : St} (hn : okB n = true) (hfit : Fit n) (hin : ∀ x ∈ n.ints, In x) (hp : parK (par d) (kc n) ks = some u) (hu : u.n = ks.length) (hf : Fine ks) (hj : foldO n ks = some m) : OkOne n m := by
  unfold foldO at hj
  split at hj
  · rename_i h3
    cases hj
    refine ⟨hn, rfl, by omega, hfit, hin, ?_⟩
    unfold foldO
    rw [if_pos h3]
  · split at hj
    · rename_i h3 h5
      exact join_one hn h5 hp hu hf hj
    · rename_i h3 h5
      cases hj
      obtain ⟨j1, j2, j3, j4⟩ := vals_ok hn h3 hfit hin
      exact least_one (ok_right hn).1 (j4 h5) j1 j2 j3

/-- what the tight form of an array that stands first comes to -/
def Good (p : List Nd → Option St) (f : List Nd → List Nd) (F : List Nd) (s : St) : Prop :=
  ∃ u, p F = some u ∧ u.n = F.length ∧ u.n ≤ s.n ∧ u.i ≤ s.i ∧ u.d ≤ s.d ∧ Fits F ∧ Vals F ∧ f F = F
theorem app_take {X Y : List Nd} {k : Nat} (h : k = X.length) : (X ++ Y).take k = X.take k ∧ (X ++ Y).drop k = Y := by
  subst h
  exact ⟨by rw [List.take_append_of_le_length (Nat.le_refl _)], by simp⟩
theorem catF_good {d : Nat} (hf : ∀ l s, par d l = some s → Fine l → Good (par d) (formF d) (formF d l) s) :
    ∀ {c : Nat} {l : List Nd} {t : St}, parK (par d) c l = some t → Fine l → Good (parK (par d) c) (catF (par d) (formF d) c) (catF (par d) (formF d) c l) t
  | 0, l, t, h, _ => by
    rw [parK_zero] at h
    cases h
    exact ⟨st0, rfl, rfl, Nat.le_refl _, Nat.le_refl _, Nat.le_refl _, (fun n hn => by cases hn), (fun n hn => by cases hn), rfl⟩
  | c + 1, l, t, h, hl => by
    obtain ⟨a, b, ha, hb, rfl⟩ := parK_some h
    obtain ⟨u, hu, hul, h1, h2, h3, h4, h5, h6⟩ := catF_good hf ha hl
    obtain ⟨v, hv, hvl, k1, k2, k3, k4, k5, k6⟩ := hf _ _ hb (hl.drop _)
    rw [catF_succ ha]
    generalize catF (par d) (formF d) c l = X at *
    generalize formF d (l.drop a.n) = Y at *
    obtain ⟨e1, e2⟩ := app_take (Y := Y) hul
    have hp := parK_local (fun l s h => par_local h) hu (X ++ Y) e1
    refine ⟨u.plus v, parK_mk hp (by rw [e2]; exact hv), ?_, ?_, ?_, ?_, h4.app k4, h5.app k5, ?_⟩
    · simp only [St.plus, List.length_append]; omega
    · simp only [St.plus]; omega
    · simp only [St.plus]; omega
    · simp only [St.plus]; omega
    · rw [catF_succ hp, e2, k6, catF_local (fun l s h => par_local h) (fun l s h => formF_local h) hu (X ++ Y) e1, h6]
theorem formF_good : ∀ {d : Nat} {l : List Nd} {s : St}, par d l = some s → Fine l → Good (par d) (formF d) (formF d l) s
  | 0, l, s, h, _ => by cases h
  | d + 1, l, s, h, hl => by
    obtain ⟨e, n, l', t, he, rfl, hn, ht, rfl⟩ := par_parts h
    obtain rfl : d = e := by omega
    obtain ⟨hfit, hin, hl'⟩ := hl.cons
    have htl := parK_len (fun l s h => (par_len h).2.1) ht
    obtain ⟨u, hu, hul, h1, h2, h3, h4, h5, h6⟩ := catF_good (fun l s h hl => formF_good h hl) ht hl'
    rw [formF_cons]
    generalize hks : catF (par d) (formF d) (kc n) l' = ks at *
    have hkf : Fine ks := ⟨by have := hl'.1; omega, h4, h5⟩
    cases hj : foldO n ks with
    | none =>
      have hcl : clos n ks = n :: ks := by unfold clos; rw [hj]
      rw [hcl]
      refine ⟨top n u, par_mk hn hu, ?_, ?_, ?_, ?_, ?_, ?_, ?_⟩
      · simp only [top, List.length_cons]; omega
      · simp only [top]; omega
      · simp only [top]; omega
      · simp only [top]; omega
      · intro m hm
        rcases List.mem_cons.1 hm with rfl | hm
        · exact hfit
        · exact h4 m hm
      · intro m hm
        rcases List.mem_cons.1 hm with rfl | hm
        · exact hin
        · exact h5 m hm
      · rw [formF_cons, h6, hcl]
    | some m =>
      obtain ⟨k1, k2, k3, k4, k5, k6⟩ := fold_one hn hfit hin hu hul hkf hj
      have hcl : clos n ks = [m] := by unfold clos; rw [hj]
      have hkc : kc m = 0 := by simp [kc, k3]
      rw [hcl]
      refine ⟨top m st0, par_mk k1 (by rw [hkc]; rfl), rfl, ?_, ?_, ?_, ?_, ?_, ?_⟩
      · simp only [top, st0]; omega
      · simp only [top, st0, k2]; omega
      · simp only [top, st0]; omega
      · intro x hx; rw [List.mem_singleton.1 hx]; exact k4
      · intro x hx; rw [List.mem_singleton.1 hx]; exact k5
      · rw [formF_cons, hkc, catF_zero]
        unfold clos
        rw [k6]
/-- a right array's tight form -/
theorem form_good {l : List Nd} {s : St} (h : whlD l = some s) (hl : Fine l) :
    ∃ u, whlD (formA l) = some u ∧ (formA l).length ≤ l.length ∧ u.i ≤ s.i ∧ u.d ≤ s.d ∧ Fine (formA l) ∧ formA (formA l) = formA l ∧ par s.d (formA l) = some u := by
  obtain ⟨hp, hi, hn⟩ := whl_some h
  have hd := par_len hp
  have hp' := par_depth hp s.d (Nat.le_refl _)
  obtain ⟨u, hu, hul, h1, h2, h3, h4, h5, h6⟩ := formF_good hp hl
  obtain ⟨v, hv, hvl, _⟩ := formF_good hp' hl
  have e : formF s.d l = formF 16 l := formF_depth hp s.d (Nat.le_refl _)
  rw [e] at hv hvl
  have hvu : v = u := by
    have := par_depth hv 16 (by have := par_len hv; omega)
    rw [hu] at this
    cases this
    rfl
  subst hvu
  exact ⟨v, whl_mk hu (by omega) hul, by show (formF 16 l).length ≤ _; omega, h2, h3, ⟨by show (formF 16 l).length ≤ _; have := hl.1; omega, h4, h5⟩, h6, hv⟩
theorem form_right {l : List Nd} (h : rightA l = true) (hl : Fine l) : rightA (formA l) = true ∧ (formA l).length ≤ l.length ∧ (ws (formA l)).i ≤ (ws l).i ∧ (ws (formA l)).d ≤ (ws l).d ∧ Fine (formA l) ∧ formA (formA l) = formA l ∧ formA l ≠ [] := by
  obtain ⟨s, hs⟩ := right_some h
  obtain ⟨u, hu, h1, h2, h3, h4, h5, _⟩ := form_good hs hl
  have hr : rightA (formA l) = true := by unfold rightA; rw [hu]; rfl
  rw [ws_some hs, ws_some hu]
  exact ⟨hr, h1, h2, h3, h4, h5, (right_kidsy hr).1⟩
end Go.Proofs.Ytcljpcbgokgcdaa
end

section
/-
  Tight forms and kids; one node alone; what the laws say, as mathematics. Nothing is claimed here by itself.
-/
namespace Go.Proofs.Ytcljpcbgokgcdaa
set_option linter.unusedVariables false
set_option linter.unusedSimpArgs false

/-- numbers and a shape, as a node -/
def numO (s : List Int) (l : List (Int × Int)) : Option Nd := if rightB s = true ∧ cnt s = l.length ∧ l.all decB = true then some (leastN s l) else none
theorem catF_cons {p : List Nd → Option St} {f : List Nd → List Nd} : ∀ {c : Nat} {l : List Nd} {a b : St}, p l = some a → parK p c (l.drop a.n) = some b → catF p f (c + 1) l = f l ++ catF p f c (l.drop a.n)
  | 0, l, a, b, ha, hb => by
    rw [catF_succ (parK_zero p l)]
    simp [catF_zero, st0]
  | c + 1, l, a, b, ha, hb => by
    obtain ⟨x, y, hx, hy, rfl⟩ := parK_some hb
    rw [catF_succ (parK_cons_mk ha hx), catF_cons ha hx, catF_succ hx, List.append_assoc, show (a.plus x).n = a.n + x.n from rfl, List.drop_drop]
/-- rows that are right arrays, and not too deep, one behind the other -/
theorem flat_par : ∀ {ks : List (List Nd)}, (∀ k ∈ ks, ∃ s, whlD k = some s ∧ s.d ≤ 15) →
    ∃ t, parK (par 15) ks.length (flatK ks) = some t ∧ t.n = (flatK ks).length ∧ t.i = isum ks ∧ catF (par 15) (formF 15) ks.length (flatK ks) = flatK (ks.map formA)
  | [], _ => ⟨st0, rfl, rfl, rfl, rfl⟩
  | k :: ks, h => by
    obtain ⟨s, hs, hd⟩ := h k (by simp)
    obtain ⟨t, ht, hn, hi, hc⟩ := flat_par (ks := ks) fun q hq => h q (by simp [hq])
    obtain ⟨hp, hsi, hsn⟩ := whl_some hs
    have h15 := par_depth hp 15 hd
    have hap := par_app h15 (flatK ks)
    have hdr : (k ++ flatK ks).drop s.n = flatK ks := by rw [hsn]; simp
    have ht' : parK (par 15) ks.length ((k ++ flatK ks).drop s.n) = some t := by rw [hdr]; exact ht
    refine ⟨s.plus t, parK_cons_mk hap ht', ?_, ?_, ?_⟩
    · simp only [St.plus, flatK, List.length_append]; omega
    · simp only [St.plus, isum, ws_some hs]; omega
    · rw [List.length_cons, show flatK (k :: ks) = k ++ flatK ks from rfl, catF_cons hap ht', hdr, hc, formF_app h15, List.map_cons]
      show formF 15 k ++ _ = formA k ++ _
      rw [show formA k = formF 15 k from formF_depth h15 16 (by omega)]
theorem hold_facts : ∀ {m : Nat} {ks : List (List Nd)}, holdK m ks = true → m ≤ 1048576 → (∀ k ∈ ks, ∃ s, whlD k = some s ∧ s.d ≤ 15) ∧ m + isum ks ≤ 1048576
  | m, [], _, hm => ⟨(fun k hk => by cases hk), by simpa [isum] using hm⟩
  | m, k :: ks, h, hm => by
    simp only [holdK, holdB1, Bool.and_eq_true, decide_eq_true_eq] at h
    obtain ⟨⟨hr, hd, hi⟩, hk⟩ := h
    obtain ⟨h1, h2⟩ := hold_facts hk hi
    obtain ⟨s, hs⟩ := right_some hr
    rw [ws_some hs] at hd hi h2
    refine ⟨fun q hq => ?_, by simp only [isum, ws_some hs]; omega⟩
    rcases List.mem_cons.1 hq with rfl | hq
    · exact ⟨s, hs, by omega⟩
    · exact h1 q hq
theorem hold_mono : ∀ {m m' : Nat} {ks : List (List Nd)}, holdK m ks = true → m' ≤ m → (∀ k ∈ ks, Fine k) → holdK m' (ks.map formA) = true
  | m, m', [], _, _, _ => rfl
  | m, m', k :: ks, h, hm, hf => by
    simp only [holdK, holdB1, Bool.and_eq_true, decide_eq_true_eq] at h
    obtain ⟨⟨hr, hd, hi⟩, hk⟩ := h
    obtain ⟨k1, k2, k3, k4, _⟩ := form_right hr (hf k (by simp))
    have ih := hold_mono (m' := m' + (ws (formA k)).i) hk (by omega) fun q hq => hf q (by simp [hq])
    simp only [List.map_cons, holdK, holdB1, Bool.and_eq_true, decide_eq_true_eq]
    exact ⟨⟨k1, by omega, by omega⟩, ih⟩
theorem nest_facts {sh : List Int} {ks : List (List Nd)} (h : nestB sh ks = true) : okB (nest5 sh) = true ∧ cnt sh = ks.length ∧ holdK ks.length ks = true := by
  simp only [nestB, Bool.and_eq_true, decide_eq_true_eq] at h
  obtain ⟨h1, h2, h3⟩ := h
  have e : itm (nest5 sh) = cnt sh := by unfold itm; rw [if_pos h1]; rfl
  rw [e] at h2 h3
  exact ⟨h1, h2.symm, by rw [h2]; exact h3⟩
/-- an array laid of kids: right, and its tight form -/
theorem nest_form {sh : List Int} {ks : List (List Nd)} (h : nestB sh ks = true) : rightA (nest5 sh :: flatK ks) = true ∧ formA (nest5 sh :: flatK ks) = clos (nest5 sh) (flatK (ks.map formA)) ∧ (ws (nest5 sh :: flatK ks)).i = cnt sh + isum ks := by
  obtain ⟨h1, h2, h3⟩ := nest_facts h
  have hc := cnt_le1 sh
  obtain ⟨h4, h5⟩ := hold_facts h3 (by omega)
  obtain ⟨t, ht, hn, hi, hcat⟩ := flat_par h4
  have hkc : kc (nest5 sh) = ks.length := by unfold kc nest5; simp [h2]
  have hp : par 16 (nest5 sh :: flatK ks) = some (top (nest5 sh) t) := par_mk h1 (by rw [hkc]; exact ht)
  have hw : whlD (nest5 sh :: flatK ks) = some (top (nest5 sh) t) := whl_mk hp (by show t.i + cnt sh ≤ 1048576; omega) (by simp only [top, List.length_cons]; omega)
  refine ⟨by unfold rightA; rw [hw]; rfl, ?_, by rw [ws_some hw]; show t.i + cnt sh = _; omega⟩
  show formF 16 _ = _
  rw [formF_cons, hkc, hcat]
/-- kids may be tight ahead -/
theorem kids_form {sh : List Int} {ks : List (List Nd)} (h : nestB sh ks = true) (hf : ∀ k ∈ ks, Fine k) : nestB sh (ks.map formA) = true ∧ formA (nest5 sh :: flatK (ks.map formA)) = formA (nest5 sh :: flatK ks) := by
  obtain ⟨h1, h2, h3⟩ := nest_facts h
  have hn : nestB sh (ks.map formA) = true := by
    have e : itm (nest5 sh) = cnt sh := by unfold itm; rw [if_pos h1]; rfl
    simp only [nestB, Bool.and_eq_true, decide_eq_true_eq, e, List.length_map]
    exact ⟨h1, h2.symm, by rw [h2]; exact hold_mono h3 (Nat.le_refl _) hf⟩
  refine ⟨hn, ?_⟩
  rw [(nest_form hn).2.1, (nest_form h).2.1, List.map_map]
  congr 2
  refine List.map_congr_left fun k hk => ?_
  obtain ⟨s, hs, _⟩ := (hold_facts h3 (by have := cnt_le1 sh; omega)).1 k hk
  exact (form_right (by unfold rightA; rw [hs]; rfl) (hf k hk)).2.2.2.2.2.1

/-- one node alone -/
theorem alone_right {n m : Nd} (h : OkOne n m) : rightA [m] = true ∧ formA [m] = [m] ∧ (ws [m]).i = cnt m.shp := by
  obtain ⟨h1, h2, h3, h4, h5, h6⟩ := h
  have hkc : kc m = 0 := by simp [kc, h3]
  have hp : par 16 [m] = some (top m st0) := par_mk h1 (by rw [hkc]; rfl)
  have hc := cnt_le1 m.shp
  have hw : whlD [m] = some (top m st0) := whl_mk hp (by show 0 + cnt m.shp ≤ 1048576; omega) rfl
  refine ⟨by unfold rightA; rw [hw]; rfl, ?_, by rw [ws_some hw]; show 0 + cnt m.shp = _; omega⟩
  show formF 16 [m] = [m]
  rw [formF_cons, hkc, catF_zero]
  unfold clos
  rw [h6]
/-- the first node of a right array, and what it comes to -/
theorem right_form {l : List Nd} (hr : rightA l = true) (hf : Fine l) : ∃ n l' ks, l = n :: l' ∧ okB n = true ∧ formA l = clos n ks ∧ (∀ m, foldO n ks = some m → OkOne n m) ∧ (n.kind ≠ 5 → l' = [] ∧ ks = []) := by
  obtain ⟨s, hs⟩ := right_some hr
  obtain ⟨n, l', t, rfl, hok, ht, rfl, hn, hi⟩ := right_parts hs
  obtain ⟨hfit, hin, hl'⟩ := hf.cons
  obtain ⟨u, hu, hul, h1, h2, h3, h4, h5, h6⟩ := catF_good (fun l s h hl => formF_good h hl) ht hl'
  refine ⟨n, l', catF (par 15) (formF 15) (kc n) l', rfl, hok, rfl, fun m hm => fold_one hok hfit hin hu hul ⟨by have := hl'.1; omega, h4, h5⟩ hm, fun hk => ?_⟩
  have hkc : kc n = 0 := by simp [kc, hk]
  rw [hkc, parK_zero] at ht
  cases ht
  refine ⟨List.eq_nil_of_length_eq_zero (by simpa [st0] using hn.symm), by rw [hkc]; rfl⟩
theorem leaf_form {n : Nd} (hk : n.kind ≠ 5) (ks : List Nd) : clos n ks = [if n.kind = 3 then n else leastN n.shp (valsN n)] := by
  unfold clos foldO
  by_cases h3 : n.kind = 3
  · rw [if_pos h3, if_pos h3]
  · rw [if_neg h3, if_neg hk, if_neg h3]
/-- an array in one of no shape -/
theorem box_form {F : List Nd} (hr : rightA F = true) (hf : Fine F) (ht : formA F = F) (hd : (ws F).d < 16) (hi : (ws F).i ≤ 2000) : ∃ h l, F = h :: l ∧ rightA (nest5 [] :: F) = true ∧ (ws (nest5 [] :: F)).i ≤ 2001 ∧
    (h.shp = [] ∧ h.kind ≠ 5 → formA (nest5 [] :: F) = F) ∧ (¬ (h.shp = [] ∧ h.kind ≠ 5) → formA (nest5 [] :: F) = nest5 [] :: F) := by
  have hw := nest_whole hr hd hi
  obtain ⟨s, hs⟩ := right_some hr
  have hp := (whl_some hs).1
  rw [ws_some hs] at hd hw hi
  have h15 := par_depth hp 15 (by omega)
  have e2 : kc (nest5 []) = 1 := by decide +kernel
  have e3 : cnt (nest5 []).shp = 1 := by decide +kernel
  have hc1 : catF (par 15) (formF 15) 1 F = F := by
    rw [catF_succ (parK_zero _ _), catF_zero, List.nil_append, show st0.n = 0 from rfl, List.drop_zero, ← formF_depth h15 16 (by omega)]
    exact ht
  have hfa : formA (nest5 [] :: F) = clos (nest5 []) F := by
    show formF 16 _ = _
    rw [formF_cons, e2, hc1]
  obtain ⟨n, l', ks, rfl, hok, hfo, hone, hleaf⟩ := right_form hr hf
  refine ⟨n, l', rfl, by unfold rightA; rw [hw]; rfl, by rw [ws_some hw]; show s.i + cnt (nest5 []).shp ≤ 2001; omega, fun hh => ?_, fun hh => ?_⟩
  · obtain ⟨hsh, hk⟩ := hh
    obtain ⟨rfl, rfl⟩ := hleaf hk
    rw [hfa]
    have hl1 := hfo.symm.trans ht
    rw [leaf_form hk] at hl1
    have hdeep : [n].any deepB = false := by
      have : deepB n = false := by simp [deepB, hk, hsh]
      simp [this]
    unfold clos foldO
    rw [if_neg (by decide : ¬ (nest5 []).kind = 3), if_pos (by rfl : (nest5 []).kind = 5)]
    unfold joinO
    by_cases h3 : n.kind = 3
    · have hs3 : signN n = true := by simp [signN, h3]
      have hn3 : numN n = false := by simp [numN, hs3]
      obtain ⟨_, hd0, _⟩ := ints_one hok hsh h3
      have e : (⟨3, [], n.ints, []⟩ : Nd) = n := by
        cases n
        simp_all
      simp [hdeep, hs3, hn3, intsK, nest5]
      simpa using e
    · have hs3 : signN n = false := by simp [signN, h3]
      rw [if_neg h3] at hl1
      have e : leastN [] (valsN n) = n := by
        have := List.singleton_inj.1 hl1
        rw [hsh] at this
        exact this
      simp [hdeep, hs3, valsK, nest5, e]
  · rw [hfa]
    have hdeep : deepB n = true := by
      simp only [deepB, Bool.or_eq_true, beq_iff_eq, decide_eq_true_eq]
      by_cases hk : n.kind = 5
      · exact .inl hk
      · refine .inr ?_
        cases hs' : n.shp with
        | nil => exact absurd ⟨hs', hk⟩ hh
        | cons x xs => simp
    unfold clos foldO
    rw [if_neg (by decide : ¬ (nest5 []).kind = 3), if_pos (by rfl : (nest5 []).kind = 5)]
    unfold joinO
    simp [hdeep]
/-- the Shape, and numbers of one kind, stay -/
theorem shape_form {l : List Nd} (hr : rightA l = true) (hf : Fine l) : ∃ n l' m r, l = n :: l' ∧ formA l = m :: r ∧ m.shp = n.shp ∧ (n.kind = 5 ∨ (n.kind = 3 ↔ m.kind = 3)) ∧
    (n.kind = 1 ∨ n.kind = 2 → r = [] ∧ m.ints = n.ints ∧ (m.kind = 1 ∨ m.kind = 2)) := by
  obtain ⟨n, l', ks, rfl, hok, hfo, hone, hleaf⟩ := right_form hr hf
  rw [hfo]
  by_cases hk : n.kind = 5
  · unfold clos
    cases ho : foldO n ks with
    | none => exact ⟨n, l', n, ks, rfl, rfl, rfl, .inl hk, fun h => by omega⟩
    | some m => exact ⟨n, l', m, [], rfl, rfl, (hone m ho).2.1, .inl hk, fun h => by omega⟩
  · rw [leaf_form hk]
    by_cases h3 : n.kind = 3
    · rw [if_pos h3]
      exact ⟨n, l', n, [], rfl, rfl, rfl, .inr (by simp), fun h => by omega⟩
    · rw [if_neg h3]
      obtain ⟨hfit, hin, _⟩ := hf.cons
      obtain ⟨j1, j2, j3, j4⟩ := vals_ok hok h3 hfit hin
      obtain ⟨k1, k2, k3, k4, _⟩ := least_facts (ok_right hok).1 (j4 hk) j1 j2 j3
      refine ⟨n, l', _, [], rfl, rfl, k2, .inr ⟨fun h => absurd h h3, fun h => absurd h k3⟩, fun h => ?_⟩
      obtain ⟨a1, a2, a3⟩ := of_all hin
      have hd0 : n.decs = [] := by
        have h2 := (ok_right hok).2
        unfold fillB at h2
        rcases h with h | h <;> simp [h] at h2
        · exact h2.1.2
        · exact h2.2
      have hv : valsN n = n.ints.map ofD := by unfold valsN; rw [hd0, List.append_nil]
      have hL : leastN n.shp (valsN n) = ⟨kindI n.ints, n.shp, n.ints, []⟩ := by
        rw [hv]
        unfold leastN
        rw [if_pos a1, a2]
      rw [hL]
      exact ⟨rfl, rfl, (kindI_is n.ints).1.symm⟩
end Go.Proofs.Ytcljpcbgokgcdaa
end
