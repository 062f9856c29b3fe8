/-
  Arrays as lists of nodes: the array that stands first, how great and how deep it is. Nothing is claimed here by itself.
-/
import Derived.Test.YtfdlngcaopcaoaaCount
import Derived.Test.YtfdlngcaopcaoaaDec
namespace Go.Proofs.Ytfdlngcaopcaoaa
set_option linter.unusedVariables false
set_option linter.unusedSimpArgs false

/-- a node -/
structure Nd where
  kind : Int
  shp : List Int
  ints : List Int
  decs : List (Int × Int)
instance : Inhabited Nd := ⟨⟨0, [], [], []⟩⟩
instance : DecidableEq Nd := fun a b =>
  if h : a.kind = b.kind ∧ a.shp = b.shp ∧ a.ints = b.ints ∧ a.decs = b.decs then isTrue (by cases a; cases b; simp_all) else isFalse (fun e => h (by subst e; simp))
def nd0 : Nd := ⟨0, [], [], []⟩

def bitB (x : Int) : Bool := x == 0 || x == 1
def signB (x : Int) : Bool := (decide (0 ≤ x) && decide (x ≤ 1114111)) && (decide (x < 55296) || decide (57343 < x))
def decB (x : Int × Int) : Bool := rightD x.1 x.2
/-- a node has what its kind asks for so many items -/
def fillB (n : Nd) (c : Nat) : Bool :=
  if n.kind = 1 then (n.ints.length == c && n.decs.length == 0) && n.ints.all bitB
  else if n.kind = 2 then n.ints.length == c && n.decs.length == 0
  else if n.kind = 3 then (n.ints.length == c && n.decs.length == 0) && n.ints.all signB
  else if n.kind = 4 then (n.ints.length == 0 && n.decs.length == c) && n.decs.all decB
  else if n.kind = 5 then n.ints.length == 0 && n.decs.length == 0
  else false
def okB (n : Nd) : Bool := rightB n.shp && fillB n (cnt n.shp)
def itm (n : Nd) : Nat := if okB n = true then cnt n.shp else 0

/-- nodes, items, depth, rank -/
structure St where
  n : Nat
  i : Nat
  d : Nat
  r : Nat
def st0 : St := ⟨0, 0, 0, 0⟩
def St.plus (s t : St) : St := ⟨s.n + t.n, s.i + t.i, max s.d t.d, max s.r t.r⟩
theorem plus_zero (s : St) : s.plus st0 = s := by cases s; simp [St.plus, st0]
theorem zero_plus (s : St) : st0.plus s = s := by cases s; simp [St.plus, st0]
theorem plus_assoc (a b c : St) : (a.plus b).plus c = a.plus (b.plus c) := by
  simp only [St.plus, St.mk.injEq]
  refine ⟨?_, ?_, ?_, ?_⟩ <;> omega

def kc (n : Nd) : Nat := if n.kind = 5 then cnt n.shp else 0
def top (n : Nd) (t : St) : St := ⟨t.n + 1, t.i + cnt n.shp, t.d + 1, max t.r n.shp.length⟩
/-- so many arrays, one behind the other -/
def parK (f : List Nd → Option St) : Nat → List Nd → Option St
  | 0, _ => some st0
  | j + 1, l => (parK f j l).bind fun t => (f (l.drop t.n)).map t.plus
/-- the array that stands first, of depth d at most -/
def par : Nat → List Nd → Option St
  | 0, _ => none
  | _ + 1, [] => none
  | d + 1, n :: l => if okB n = true then (parK (par d) (kc n) l).map (top n) else none

theorem par_cons (d : Nat) (n : Nd) (l : List Nd) : par (d + 1) (n :: l) = if okB n = true then (parK (par d) (kc n) l).map (top n) else none := rfl
theorem par_nil (d : Nat) : par d [] = none := by cases d <;> rfl
theorem parK_zero (f : List Nd → Option St) (l : List Nd) : parK f 0 l = some st0 := rfl
theorem parK_succ (f : List Nd → Option St) (j : Nat) (l : List Nd) : parK f (j + 1) l = (parK f j l).bind fun t => (f (l.drop t.n)).map t.plus := rfl
theorem parK_some {f : List Nd → Option St} {j : Nat} {l : List Nd} {t : St} (h : parK f (j + 1) l = some t) : ∃ a b, parK f j l = some a ∧ f (l.drop a.n) = some b ∧ t = a.plus b := by
  rw [parK_succ] at h
  cases ha : parK f j l with
  | none => simp [ha] at h
  | some a =>
    simp only [ha, Option.bind_some, Option.map_eq_some_iff] at h
    obtain ⟨b, hb, rfl⟩ := h
    exact ⟨a, b, rfl, hb, rfl⟩
theorem parK_mk {f : List Nd → Option St} {j : Nat} {l : List Nd} {a b : St} (ha : parK f j l = some a) (hb : f (l.drop a.n) = some b) : parK f (j + 1) l = some (a.plus b) := by
  rw [parK_succ, ha, Option.bind_some, hb]; rfl
theorem parK_none {f : List Nd → Option St} {j c : Nat} {l : List Nd} (h : parK f j l = none) (hj : j ≤ c) : parK f c l = none := by
  induction c with
  | zero => obtain rfl : j = 0 := by omega
            exact h
  | succ c ih =>
    by_cases e : j = c + 1
    · subst e; exact h
    · rw [parK_succ, ih (by omega)]; rfl
theorem parK_to {f : List Nd → Option St} : ∀ {c : Nat} {l : List Nd} {t : St}, parK f c l = some t → ∀ j, j ≤ c → ∃ a, parK f j l = some a ∧ a.n ≤ t.n ∧ a.i ≤ t.i ∧ a.d ≤ t.d ∧ a.r ≤ t.r
  | 0, l, t, h, j, hj => by
    obtain rfl : j = 0 := by omega
    exact ⟨t, h, Nat.le_refl _, Nat.le_refl _, Nat.le_refl _, Nat.le_refl _⟩
  | c + 1, l, t, h, j, hj => by
    by_cases e : j = c + 1
    · subst e; exact ⟨t, h, Nat.le_refl _, Nat.le_refl _, Nat.le_refl _, Nat.le_refl _⟩
    · obtain ⟨a, b, ha, hb, rfl⟩ := parK_some h
      obtain ⟨a', ha', h1, h2, h3, h4⟩ := parK_to ha j (by omega)
      exact ⟨a', ha', by simp only [St.plus]; omega, by simp only [St.plus]; omega, by simp only [St.plus]; omega, by simp only [St.plus]; omega⟩
/-- too great at some time: too great, or none, at last -/
theorem parK_great {f : List Nd → Option St} {c j : Nat} {l : List Nd} {t : St} {m : Nat} (h : parK f j l = some t) (hm : m < t.i) (hj : j ≤ c) : ∀ u, parK f c l = some u → m < u.i := fun u hu => by
  obtain ⟨a, ha, _, hi, _⟩ := parK_to hu j hj
  rw [h] at ha
  cases ha
  omega

theorem parK_len {f : List Nd → Option St} (hf : ∀ l s, f l = some s → s.n ≤ l.length) : ∀ {c : Nat} {l : List Nd} {t : St}, parK f c l = some t → t.n ≤ l.length
  | 0, l, t, h => by rw [parK_zero] at h; cases h; exact Nat.zero_le _
  | c + 1, l, t, h => by
    obtain ⟨a, b, ha, hb, rfl⟩ := parK_some h
    have h1 := parK_len hf ha
    have h2 := hf _ _ hb
    rw [List.length_drop] at h2
    simp only [St.plus]
    omega
theorem parK_deep {f : List Nd → Option St} {d : Nat} (hf : ∀ l s, f l = some s → s.d ≤ d) : ∀ {c : Nat} {l : List Nd} {t : St}, parK f c l = some t → t.d ≤ d
  | 0, l, t, h => by rw [parK_zero] at h; cases h; exact Nat.zero_le _
  | c + 1, l, t, h => by
    obtain ⟨a, b, ha, hb, rfl⟩ := parK_some h
    have h1 := parK_deep hf ha
    have h2 := hf _ _ hb
    simp only [St.plus]
    omega
theorem par_parts {d : Nat} {l : List Nd} {s : St} (h : par d l = some s) : ∃ e n l' t, d = e + 1 ∧ l = n :: l' ∧ okB n = true ∧ parK (par e) (kc n) l' = some t ∧ s = top n t := by
  cases d with
  | zero => cases h
  | succ e =>
    cases l with
    | nil => cases h
    | cons n l' =>
      rw [par_cons] at h
      split at h
      · rename_i hn
        obtain ⟨t, ht, rfl⟩ := Option.map_eq_some_iff.1 h
        exact ⟨e, n, l', t, rfl, rfl, hn, ht, rfl⟩
      · cases h
theorem par_mk {e : Nat} {n : Nd} {l : List Nd} {t : St} (hn : okB n = true) (ht : parK (par e) (kc n) l = some t) : par (e + 1) (n :: l) = some (top n t) := by
  rw [par_cons, if_pos hn, ht]; rfl
theorem par_len : ∀ {d : Nat} {l : List Nd} {s : St}, par d l = some s → 1 ≤ s.n ∧ s.n ≤ l.length ∧ 1 ≤ s.d ∧ s.d ≤ d
  | 0, l, s, h => by cases h
  | d + 1, l, s, h => by
    obtain ⟨e, n, l', t, he, rfl, hn, ht, rfl⟩ := par_parts h
    obtain rfl : d = e := by omega
    have h1 := parK_len (fun l s h => (par_len h).2.1) ht
    have h2 := parK_deep (fun l s h => (par_len h).2.2.2) ht
    simp only [top, List.length_cons]
    omega

/-- what stands behind does not matter -/
theorem take_part {l r : List Nd} {a b : Nat} (h : r.take (a + b) = l.take (a + b)) : r.take a = l.take a ∧ (r.drop a).take b = (l.drop a).take b := by
  constructor
  · have := congrArg (List.take a) h
    simpa [List.take_take] using this
  · have := congrArg (List.drop a) h
    simpa [List.drop_take] using this
theorem parK_local {f : List Nd → Option St} (hf : ∀ l s, f l = some s → ∀ r : List Nd, r.take s.n = l.take s.n → f r = some s) :
    ∀ {c : Nat} {l : List Nd} {t : St}, parK f c l = some t → ∀ r : List Nd, r.take t.n = l.take t.n → parK f c r = some t
  | 0, l, t, h, r, _ => by rw [parK_zero] at h ⊢; exact h
  | c + 1, l, t, h, r, hr => by
    obtain ⟨a, b, ha, hb, rfl⟩ := parK_some h
    obtain ⟨h1, h2⟩ := take_part (a := a.n) (b := b.n) hr
    exact parK_mk (parK_local hf ha r h1) (hf _ _ hb _ h2)
theorem par_local : ∀ {d : Nat} {l : List Nd} {s : St}, par d l = some s → ∀ r : List Nd, r.take s.n = l.take s.n → par d r = some s
  | 0, l, s, h, _, _ => by cases h
  | d + 1, l, s, h, r, hr => by
    obtain ⟨e, n, l', t, he, rfl, hn, ht, rfl⟩ := par_parts h
    obtain rfl : d = e := by omega
    cases r with
    | nil => simp [top] at hr
    | cons n' r' =>
      simp only [top, List.take_succ_cons, List.cons.injEq] at hr
      obtain ⟨rfl, hr⟩ := hr
      exact par_mk hn (parK_local (fun l s h => par_local h) ht r' hr)
theorem par_app {d : Nat} {l : List Nd} {s : St} (h : par d l = some s) (r : List Nd) : par d (l ++ r) = some s :=
  par_local h _ (by rw [List.take_append_of_le_length (par_len h).2.1])
theorem par_take {d : Nat} {l : List Nd} {s : St} (h : par d l = some s) {k : Nat} (hk : s.n ≤ k) : par d (l.take k) = some s :=
  par_local h _ (by rw [List.take_take]; congr 1; omega)

/-- more depth than there is does not matter -/
theorem parK_depth {f g : List Nd → Option St} {e : Nat} (hf : ∀ l s, f l = some s → s.d ≤ e → g l = some s) :
    ∀ {c : Nat} {l : List Nd} {t : St}, parK f c l = some t → t.d ≤ e → parK g c l = some t
  | 0, l, t, h, _ => by rw [parK_zero] at h ⊢; exact h
  | c + 1, l, t, h, hd => by
    obtain ⟨a, b, ha, hb, rfl⟩ := parK_some h
    simp only [St.plus] at hd
    exact parK_mk (parK_depth hf ha (by omega)) (hf _ _ hb (by omega))
theorem par_depth : ∀ {d : Nat} {l : List Nd} {s : St}, par d l = some s → ∀ e, s.d ≤ e → par e l = some s
  | 0, l, s, h, _, _ => by cases h
  | d + 1, l, s, h, e, he => by
    obtain ⟨d', n, l', t, hd, rfl, hn, ht, rfl⟩ := par_parts h
    obtain rfl : d = d' := by omega
    simp only [top] at he
    cases e with
    | zero => omega
    | succ e => exact par_mk hn (parK_depth (fun l s h hs => par_depth h e hs) ht (by omega))

/-- from the front -/
theorem parK_cons {f : List Nd → Option St} : ∀ {c : Nat} {l : List Nd} {t : St}, parK f (c + 1) l = some t → ∃ a b, f l = some a ∧ parK f c (l.drop a.n) = some b ∧ t = a.plus b
  | 0, l, t, h => by
    obtain ⟨a, b, ha, hb, rfl⟩ := parK_some h
    rw [parK_zero] at ha
    cases ha
    exact ⟨b, st0, by simpa [st0] using hb, rfl, by rw [zero_plus, plus_zero]⟩
  | c + 1, l, t, h => by
    obtain ⟨a, b, ha, hb, rfl⟩ := parK_some h
    obtain ⟨x, y, hx, hy, rfl⟩ := parK_cons ha
    refine ⟨x, y.plus b, hx, parK_mk hy ?_, plus_assoc _ _ _⟩
    rw [List.drop_drop]
    exact hb
theorem parK_cons_mk {f : List Nd → Option St} : ∀ {c : Nat} {l : List Nd} {a b : St}, f l = some a → parK f c (l.drop a.n) = some b → parK f (c + 1) l = some (a.plus b)
  | 0, l, a, b, ha, hb => by
    rw [parK_zero] at hb
    cases hb
    rw [plus_zero]
    have := parK_mk (f := f) (j := 0) (l := l) (a := st0) (b := a) rfl (by simpa [st0] using ha)
    rwa [zero_plus] at this
  | c + 1, l, a, b, ha, hb => by
    obtain ⟨x, y, hx, hy, rfl⟩ := parK_some hb
    rw [← plus_assoc]
    refine parK_mk (parK_cons_mk ha hx) ?_
    rw [show (a.plus x).n = a.n + x.n from rfl, ← List.drop_drop]
    exact hy

/-- the array that stands first, if it is right -/
def fstD (l : List Nd) : Option St := (par 16 l).bind fun s => if s.i ≤ 1048576 then some s else none
/-- the sizes, if the whole is a right array -/
def whlD (l : List Nd) : Option St := (fstD l).bind fun s => if s.n = l.length then some s else none
def fs (l : List Nd) : St := (fstD l).getD st0
def ws (l : List Nd) : St := (whlD l).getD st0
def rightA (l : List Nd) : Bool := (whlD l).isSome
def takeA (l : List Nd) : Nat := (fs l).n

theorem fst_some {l : List Nd} {s : St} (h : fstD l = some s) : par 16 l = some s ∧ s.i ≤ 1048576 := by
  unfold fstD at h
  cases hp : par 16 l with
  | none => simp [hp] at h
  | some t =>
    simp only [hp, Option.bind_some] at h
    split at h
    · cases h; exact ⟨rfl, by assumption⟩
    · cases h
theorem fst_mk {l : List Nd} {s : St} (h : par 16 l = some s) (hi : s.i ≤ 1048576) : fstD l = some s := by
  unfold fstD; rw [h, Option.bind_some, if_pos hi]
theorem whl_some {l : List Nd} {s : St} (h : whlD l = some s) : par 16 l = some s ∧ s.i ≤ 1048576 ∧ s.n = l.length := by
  unfold whlD at h
  cases hp : fstD l with
  | none => simp [hp] at h
  | some t =>
    simp only [hp, Option.bind_some] at h
    split at h
    · cases h; exact ⟨(fst_some hp).1, (fst_some hp).2, by assumption⟩
    · cases h
theorem whl_mk {l : List Nd} {s : St} (h : par 16 l = some s) (hi : s.i ≤ 1048576) (hn : s.n = l.length) : whlD l = some s := by
  unfold whlD; rw [fst_mk h hi, Option.bind_some, if_pos hn]
theorem right_some {l : List Nd} (h : rightA l = true) : ∃ s, whlD l = some s := Option.isSome_iff_exists.1 h
theorem right_no {l : List Nd} (h : rightA l = false) : whlD l = none := by
  unfold rightA at h
  cases hw : whlD l with
  | none => rfl
  | some s => simp [hw] at h
theorem ws_some {l : List Nd} {s : St} (h : whlD l = some s) : ws l = s := by simp [ws, h]
theorem ws_none {l : List Nd} (h : whlD l = none) : ws l = st0 := by simp [ws, h]
theorem fs_some {l : List Nd} {s : St} (h : fstD l = some s) : fs l = s := by simp [fs, h]
theorem fs_none {l : List Nd} (h : fstD l = none) : fs l = st0 := by simp [fs, h]
end Go.Proofs.Ytfdlngcaopcaoaa
