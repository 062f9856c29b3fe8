/-
  Pre, Pair, one behind the other.
-/
import Derived.Test.YtcljpcbgokgcdaaBase
section
/-
  A region that leaves its order open, taken in the order of its text: where the next operation alone may come up, a short check on numbers says so. Nothing is claimed here by itself.
-/
namespace Go.Proofs.Ytcljpcbgokgcdaa
open Go.RowKit
set_option linter.unusedVariables false
set_option linter.unusedSimpArgs false

/-- how many operations must be listed ahead of it, at least -/
def loOf (md : Region.Mode) (o : Oper) : Nat := (o.after.toList.map fun e => if Region.binds md e then e.on + 1 else 0).foldr max 0
/-- the first k of n are listed -/
def pre (k n : Nat) : Array Bool := (List.replicate k true ++ List.replicate (n - k) false).toArray
/-- number k may come up, and none behind it -/
def nextB (los : List Nat) (k : Nat) : Bool := decide (los.getD k (k + 1) ≤ k) && (los.drop (k + 1)).all fun m => decide (k < m)

theorem pre_getD {k n i : Nat} (hk : k ≤ n) (d : Bool) : (pre k n).getD i d = if i < k then true else if i < n then false else d := by
  unfold pre
  simp only [Array.getD_eq_getD_getElem?, List.getElem?_toArray]
  by_cases h1 : i < k
  · rw [List.getElem?_append_left (by simpa using h1)]
    simp [h1]
  · rw [List.getElem?_append_right (by simpa using h1)]
    by_cases h2 : i < n
    · have : i - k < n - k := by omega
      simp [h1, h2, this]
    · have : ¬ i - k < n - k := by omega
      simp [h1, h2, this]
theorem pre_set {k n : Nat} (hk : k < n) : (pre k n).setIfInBounds k true = pre (k + 1) n := by
  unfold pre
  rw [List.setIfInBounds_toArray]
  congr 1
  have e : n - k = (n - (k + 1)) + 1 := by omega
  rw [e, List.replicate_succ, List.set_append_right _ _ (by simp)]
  simp only [List.length_replicate, Nat.sub_self, List.set_cons_zero]
  rw [List.replicate_succ', List.append_assoc]
  rfl
theorem pre_zero (n : Nat) : Array.replicate n false = pre 0 n := by
  unfold pre
  simp
theorem foldr_le {xs : List Nat} {k : Nat} : xs.foldr max 0 ≤ k ↔ ∀ x ∈ xs, x ≤ k := by
  induction xs with
  | nil => simp
  | cons x xs ih =>
    simp only [List.foldr_cons, List.mem_cons, forall_eq_or_imp, ← ih]
    omega
theorem ready_pre {md : Region.Mode} {l : List Oper} {los : List Nat} {n k : Nat} (hn : l.length = n) (hlos : l.map (loOf md) = los) (hk : k < n) (hb : nextB los k = true) (i : Nat) :
    i ∈ Region.ready md l.toArray (pre k n) ↔ i = k := by
  simp only [nextB, Bool.and_eq_true, decide_eq_true_eq, List.all_eq_true] at hb
  have lo : ∀ (j : Nat) (o : Oper), l[j]? = some o → los[j]? = some (loOf md o) := fun j o h => by rw [← hlos, List.getElem?_map, h]; rfl
  have all : ∀ (j : Nat) (o : Oper), l[j]? = some o → ((∀ e ∈ o.after, Region.binds md e = true → (pre k n).getD e.on false = true) ↔ loOf md o ≤ k) := fun j o h => by
    unfold loOf
    rw [foldr_le]
    constructor
    · intro H x hx
      obtain ⟨e, he, rfl⟩ := List.mem_map.1 hx
      split
      · rename_i hbd
        have := H e (by simpa using he) hbd
        rw [pre_getD (Nat.le_of_lt hk)] at this
        by_cases h3 : e.on < k
        · omega
        · simp [h3] at this
      · exact Nat.zero_le _
    · intro H e he hbd
      have := H (if Region.binds md e then e.on + 1 else 0) (List.mem_map.2 ⟨e, by simpa using he, rfl⟩)
      rw [if_pos hbd] at this
      rw [pre_getD (Nat.le_of_lt hk)]
      have h3 : e.on < k := by omega
      simp [h3]
  rw [mem_ready]
  constructor
  · rintro ⟨h1, o, ho, hall⟩
    have ho' : l[i]? = some o := by simpa using ho
    have hin : i < n := by rw [← hn]; exact (List.getElem?_eq_some_iff.1 ho').1
    rw [pre_getD (Nat.le_of_lt hk)] at h1
    have hki : ¬ i < k := fun h => by simp [h] at h1
    have hle := (all i o ho').1 hall
    by_cases hik : i = k
    · exact hik
    · exfalso
      have hm : loOf md o ∈ los.drop (k + 1) := by
        refine List.mem_of_getElem? (i := i - (k + 1)) ?_
        rw [List.getElem?_drop, show k + 1 + (i - (k + 1)) = i by omega]
        exact lo i o ho'
      have := hb.2 _ hm
      omega
  · rintro rfl
    have hkl : i < l.length := by omega
    obtain ⟨o, ho⟩ : ∃ o, l[i]? = some o := ⟨l[i], List.getElem?_eq_getElem hkl⟩
    refine ⟨?_, o, by simpa using ho, (all i o ho).2 ?_⟩
    · rw [pre_getD (Nat.le_of_lt hk)]
      simp [hk]
    · have h1 := hb.1
      rw [show los.getD i (i + 1) = loOf md o by simp [List.getD, lo i o ho]] at h1
      exact h1

section
variable {P : Program} {Q : Exit → Act → World → Prop} {md : Region.Mode} {G : World → World → Prop}
/-- the first k have been carried out -/
def wpP (G : World → World → Prop) (P : Program) (md : Region.Mode) (l : List Oper) (los : List Nat) (n : Nat) (Q : Exit → Act → World → Prop) (k : Nat) (a : Act) (w : World) : Prop :=
  l.length = n → l.map (loOf md) = los → wpR G P md l.toArray Q (n - k) (pre k n) a w
variable {l rest : List Oper} {los : List Nat} {n k : Nat} {o : Oper} {a : Act} {w : World}
theorem drop_lt (ho : l.drop k = o :: rest) : k < l.length := by
  rcases Nat.lt_or_ge k l.length with h | h
  · exact h
  · rw [List.drop_of_length_le h] at ho; cases ho
/-- the next one is carried out -/
theorem wpP_op (ho : l.drop k = o :: rest) (hb : nextB los k = true) (hw : Region.wanted o (yielded l.toArray a.tmps) = true)
    (h : ∀ K' : Act → World → Prop, Shut (∀ a' w', G w w' → wpP G P md l los n Q (k + 1) a' w' → K' a' w') → Oper.wp P o a w K' Q) : wpP G P md l los n Q k a w := by
  intro hn hlos
  have hk : k < n := by rw [← hn]; exact drop_lt ho
  have hr := ready_pre (md := md) hn hlos hk hb
  rw [show n - k = (n - (k + 1)) + 1 by omega]
  refine ⟨fun h0 => ?_, fun i hi => ?_⟩
  · have := (hr k).2 rfl
    rw [h0] at this
    cases this
  · obtain rfl := (hr i).1 hi
    rw [pre_set hk]
    exact wpR_op ho hw fun K' hK => h K' (fun a' w' hg hx => hK.out a' w' hg (hx hn hlos))
/-- the next one is passed over: its guard says no -/
theorem wpP_skip (ho : l.drop k = o :: rest) (hb : nextB los k = true) (hG : Ord G) (hw : Region.wanted o (yielded l.toArray a.tmps) = false)
    (h : wpP G P md l los n Q (k + 1) (a.put o.dst undef) w) : wpP G P md l los n Q k a w := by
  intro hn hlos
  have hk : k < n := by rw [← hn]; exact drop_lt ho
  have hr := ready_pre (md := md) hn hlos hk hb
  rw [show n - k = (n - (k + 1)) + 1 by omega]
  refine ⟨fun h0 => ?_, fun i hi => ?_⟩
  · have := (hr k).2 rfl
    rw [h0] at this
    cases this
  · obtain rfl := (hr i).1 hi
    rw [pre_set hk]
    refine wpOp_step (at_of_drop ho) (fun K' hK => ?_)
    rw [if_neg (by rw [hw]; exact Bool.false_ne_true)]
    exact hK _ _ ⟨hG.refl w, h hn hlos⟩
/-- the next one is read first, others may come up too -/
theorem wpP_take (hG : Ord G) {v : Value} (ho : l.drop k = o :: rest)
    (hs : Region.noSelect l.toArray = true) (hf : Region.free md l.toArray (pre k n) k = true) (hr : (Region.ready md l.toArray (pre k n)).contains k = true)
    (hQ : ∀ c a w, Q (.panic c) (a.put o.dst v) w → Q (.panic c) a w) (hw : Region.wanted o (yielded l.toArray a.tmps) = true)
    (hy : ∀ x, G w x → (execOp a.eval o).run P x = .ok (.value v) x)
    (h : wpP G P md l los n Q (k + 1) (a.put o.dst v) w) : wpP G P md l los n Q k a w := by
  intro hn hlos
  have hk : k < n := by rw [← hn]; exact drop_lt ho
  rw [show n - k = (n - (k + 1)) + 1 by omega]
  refine wpR_take hG ho hs hf hr hQ hw hy ?_
  rw [pre_set hk]
  exact h hn hlos
theorem wpP_done (hk : k = n) (h : Q .normal a w) : wpP G P md l los n Q k a w := by
  intro hn hlos
  subst hk
  refine wpR_done ?_ h
  rw [List.eq_nil_iff_forall_not_mem]
  intro i hi
  obtain ⟨h1, o, ho, _⟩ := mem_ready.1 hi
  have hin : i < k := by
    have : l[i]? = some o := by simpa using ho
    rw [← hn]
    exact (List.getElem?_eq_some_iff.1 this).1
  rw [pre_getD (Nat.le_refl _)] at h1
  simp [hin] at h1
/-- the beginning -/
theorem wp_region_P (G : World → World → Prop) {id : Nat} (los : List Nat) (hn : l.length = n) (hlos : l.map (loOf .any) = los) (hm : P.follows .mixedOrders = true)
    (h : ∀ W0, W0.heap = w.heap → Grow w W0 → wpP G P .any l los n Q 0 a W0) : (Code.region id l.toArray true).wp P Q a w := by
  refine wp_region_R G hn hm fun W0 h1 h2 => ?_
  rw [pre_zero]
  exact h W0 h1 h2 hn hlos
/-- a number put into a list of them -/
theorem put_lit (l : List Value) (df : List Deferred) (k : Nat) (v : Value) : Act.put ⟨l.toArray, df⟩ (some k) v = ⟨(l.set k v).toArray, df⟩ := by simp [Act.put]
end
end Go.Proofs.Ytcljpcbgokgcdaa
end

section
/-
  Two operations of which either may come first, in a region that is taken in the order of its text: both orders, and once what follows. Nothing is claimed here by itself.
-/
namespace Go.Proofs.Ytcljpcbgokgcdaa
open Go.RowKit
section
variable {P : Program} {Q : Exit → Act → World → Prop} {md : Region.Mode} {G : World → World → Prop} {l : List Oper} {los : List Nat} {n k : Nat} {a : Act} {w : World}
theorem wpP_name (h : ∀ (l' : List Oper) (los' : List Nat) (Q' : Exit → Act → World → Prop) (A0 : Act), l' = l → los' = los → Q' = Q → A0 = a → wpP G P md l' los' n Q' k A0 w) : wpP G P md l los n Q k a w := h _ _ _ _ rfl rfl rfl rfl
theorem wpP_out (f : Nat) (hf : n - k = f) (h : l.length = n → l.map (loOf md) = los → wpR G P md l.toArray Q f (pre k n) a w) : wpP G P md l los n Q k a w := fun h1 h2 => by rw [hf]; exact h h1 h2
theorem wpP_in {f m : Nat} {listed : Array Bool} (hf : f = n - m) (hL : listed = pre m n) (hn : l.length = n) (hlos : l.map (loOf md) = los) (h : wpP G P md l los n Q m a w) : wpR G P md l.toArray Q f listed a w := by
  subst hf hL
  exact h hn hlos
end
end Go.Proofs.Ytcljpcbgokgcdaa
end
