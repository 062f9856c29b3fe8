/-
  A region that leaves its order open, some of whose operations make new memory: its readers may be taken first, and what makes memory comes in every order that may be. Nothing is claimed here by itself.
-/
import Derived.Test.YtcnijmmpkahoaaaDoorGrow
import Derived.Test.YtcnijmmpkahoaaaDoorWords
namespace Go.Proofs.YtcnijmmpkahoaaaDoor
open Go.RowKit

/-- what holds of a world and one that comes later -/
structure Ord (G : World → World → Prop) : Prop where
  refl : ∀ w, G w w
  trans : ∀ {a b c}, G a b → G b c → G a c
theorem growOrd : Ord Grow := ⟨Grow.refl, Grow.trans⟩
theorem belowOrd (B : Nat) : Ord (Below B) := ⟨Below.refl B, Below.trans⟩

section
variable {P : Program} {ops : Array Oper} {Q : Exit → Act → World → Prop} {md : Region.Mode} {G : World → World → Prop}

/-- whatever order is picked from here on, and G holds at every step -/
def wpR (G : World → World → Prop) (P : Program) (md : Region.Mode) (ops : Array Oper) (Q : Exit → Act → World → Prop) : Nat → Array Bool → Act → World → Prop
  | 0, listed, a, w => Region.ready md ops listed = [] ∧ Q .normal a w
  | fuel + 1, listed, a, w =>
    (Region.ready md ops listed = [] → Q .normal a w) ∧
    ∀ i ∈ Region.ready md ops listed, wpOp P ops Q i (fun a' w' => G w w' ∧ wpR G P md ops Q fuel (listed.setIfInBounds i true) a' w') a w

theorem wpAny_of_R : ∀ (fuel : Nat) (listed : Array Bool) (a : Act) (w : World), wpR G P md ops Q fuel listed a w → wpAny P md ops Q fuel listed a w
  | 0, _, _, _, h => h
  | fuel + 1, _, _, _, h => ⟨h.1, fun i hi => wpOp_mono (fun a' w' h' => wpAny_of_R fuel _ a' w' h'.2) (h.2 i hi)⟩

theorem laterR (hG : Ord G) {o : Oper} {v : Value} {a : Act} {w w' : World} (h : YieldsIf P ops (G w) o v a) (hg : G w w') : YieldsIf P ops (G w') o v a :=
  h.imp (fun ⟨hw, hv⟩ => ⟨hw, fun x hx => hv x (hG.trans hg hx)⟩) id

theorem wpR_first (hG : Ord G) {i : Nat} {oi : Oper} {v : Value} (hi : ops[i]? = some oi) (hsel : ∀ (j : Nat) (o : Oper) cs b, ops[j]? = some o → o.op ≠ .select cs b)
    (hQ : ∀ c a w, Q (.panic c) (a.put oi.dst v) w → Q (.panic c) a w) :
    ∀ (fuel : Nat) (listed : Array Bool) (a : Act) (w : World),
      (∀ j oj, ops[j]? = some oj → j ≠ i → listed.getD j true = false → (∀ e ∈ oj.after, Region.binds md e = true → e.on ≠ i) → oi.apart ops oj = true) →
      i ∈ Region.ready md ops listed → YieldsIf P ops (G w) oi v a →
      wpR G P md ops Q fuel (listed.setIfInBounds i true) (a.put oi.dst v) w → wpR G P md ops Q (fuel + 1) listed a w := by
  intro fuel
  induction fuel with
  | zero =>
    intro listed a w _ hr hy H
    refine ⟨fun h => (by rw [h] at hr; cases hr), fun j hj => ?_⟩
    by_cases hji : j = i
    · subst hji; exact hy.wpOp hi (hG.refl w) ⟨hG.refl w, H⟩
    · have := ready_mono hj hji
      rw [H.1] at this
      cases this
  | succ fuel ih =>
    intro listed a w hfree hr hy H
    refine ⟨fun h => (by rw [h] at hr; cases hr), fun j hj => ?_⟩
    by_cases hji : j = i
    · subst hji; exact hy.wpOp hi (hG.refl w) ⟨hG.refl w, H⟩
    · have h1 := H.2 j (ready_mono hj hji)
      obtain ⟨hjun, oj, hoj, hall⟩ := mem_ready.1 hj
      have hnot : ∀ e ∈ oj.after, Region.binds md e = true → e.on ≠ i := fun e he hb heq => by
        have h1 := hall e he hb
        have h0 := (mem_ready.1 hr).1
        rw [heq] at h1
        rcases Nat.lt_or_ge i listed.size with h' | h'
        · simp [h'] at h0 h1; rw [h0] at h1; cases h1
        · simp [Array.getElem?_eq_none h'] at h1
      have h2 := wpOp_putIf hoj (hfree j oj hoj hji hjun hnot) (fun cs b => hsel i oi cs b hi) (fun cs b => hsel j oj cs b hoj) hQ hy h1
      have hfree' : ∀ k ok, ops[k]? = some ok → k ≠ i → (listed.setIfInBounds j true).getD k true = false →
          (∀ e ∈ ok.after, Region.binds md e = true → e.on ≠ i) → oi.apart ops ok = true := fun k ok hk hki hun hno => by
        refine hfree k ok hk hki ?_ hno
        by_cases hjk : j = k
        · subst hjk; exact hjun
        · rw [getD_set_ne true hjk] at hun; exact hun
      refine wpOp_mono (fun a' w' h3 => ⟨h3.2.1, ih (listed.setIfInBounds j true) a' w' hfree' (ready_mono hr (Ne.symm hji)) (laterR hG h3.1 h3.2.1) ?_⟩) h2
      rw [Array.setIfInBounds_comm _ _ hji]
      exact h3.2.2

/-- number i is read first -/
theorem wpR_take (hG : Ord G) {l rest : List Oper} {i : Nat} {oi : Oper} {v : Value} {fuel : Nat} {listed : Array Bool} {a : Act} {w : World} (hi : l.drop i = oi :: rest)
    (hs : Region.noSelect l.toArray = true) (hf : Region.free md l.toArray listed i = true) (hr : (Region.ready md l.toArray listed).contains i = true)
    (hQ : ∀ c a w, Q (.panic c) (a.put oi.dst v) w → Q (.panic c) a w) (hw : Region.wanted oi (yielded l.toArray a.tmps) = true)
    (hy : ∀ x, G w x → (execOp a.eval oi).run P x = .ok (.value v) x)
    (h : wpR G P md l.toArray Q fuel (listed.setIfInBounds i true) (a.put oi.dst v) w) : wpR G P md l.toArray Q (fuel + 1) listed a w :=
  wpR_first hG (at_of_drop hi) (Region.noSelect_spec hs) hQ fuel listed a w (Region.free_spec (at_of_drop hi) hf) (by simpa using hr) (.inl ⟨hw, hy⟩) h

/-- number i is passed over: its guard says no -/
theorem wpR_pass (hG : Ord G) {l rest : List Oper} {i : Nat} {oi : Oper} {fuel : Nat} {listed : Array Bool} {a : Act} {w : World} (hi : l.drop i = oi :: rest)
    (hs : Region.noSelect l.toArray = true) (hf : Region.free md l.toArray listed i = true) (hr : (Region.ready md l.toArray listed).contains i = true)
    (hQ : ∀ c a w, Q (.panic c) (a.put oi.dst undef) w → Q (.panic c) a w) (hw : Region.wanted oi (yielded l.toArray a.tmps) = false)
    (h : wpR G P md l.toArray Q fuel (listed.setIfInBounds i true) (a.put oi.dst undef) w) : wpR G P md l.toArray Q (fuel + 1) listed a w :=
  wpR_first hG (at_of_drop hi) (Region.noSelect_spec hs) hQ fuel listed a w (Region.free_spec (at_of_drop hi) hf) (by simpa using hr) (.inr ⟨hw, rfl⟩) h

/-- what may be carried out next: one, two, three or four -/
theorem wpR_any {is : List Nat} {fuel : Nat} {listed : Array Bool} {a : Act} {w : World} (hr : Region.ready md ops listed = is) (hne : is ≠ [])
    (h : ∀ i ∈ is, wpOp P ops Q i (fun a' w' => G w w' ∧ wpR G P md ops Q fuel (listed.setIfInBounds i true) a' w') a w) : wpR G P md ops Q (fuel + 1) listed a w :=
  ⟨fun h0 => absurd (hr.symm.trans h0) hne, fun i hi => h i (hr ▸ hi)⟩
theorem wpR_one {i : Nat} {fuel : Nat} {listed : Array Bool} {a : Act} {w : World} (hr : Region.ready md ops listed = [i])
    (h : wpOp P ops Q i (fun a' w' => G w w' ∧ wpR G P md ops Q fuel (listed.setIfInBounds i true) a' w') a w) : wpR G P md ops Q (fuel + 1) listed a w :=
  wpR_any hr (by simp) (by simpa using h)
theorem wpR_two {i j : Nat} {fuel : Nat} {listed : Array Bool} {a : Act} {w : World} (hr : Region.ready md ops listed = [i, j])
    (h : wpOp P ops Q i (fun a' w' => G w w' ∧ wpR G P md ops Q fuel (listed.setIfInBounds i true) a' w') a w)
    (h2 : wpOp P ops Q j (fun a' w' => G w w' ∧ wpR G P md ops Q fuel (listed.setIfInBounds j true) a' w') a w) : wpR G P md ops Q (fuel + 1) listed a w :=
  wpR_any hr (by simp) (by simpa using ⟨h, h2⟩)
theorem wpR_three {i j k : Nat} {fuel : Nat} {listed : Array Bool} {a : Act} {w : World} (hr : Region.ready md ops listed = [i, j, k])
    (h : wpOp P ops Q i (fun a' w' => G w w' ∧ wpR G P md ops Q fuel (listed.setIfInBounds i true) a' w') a w)
    (h2 : wpOp P ops Q j (fun a' w' => G w w' ∧ wpR G P md ops Q fuel (listed.setIfInBounds j true) a' w') a w)
    (h3 : wpOp P ops Q k (fun a' w' => G w w' ∧ wpR G P md ops Q fuel (listed.setIfInBounds k true) a' w') a w) : wpR G P md ops Q (fuel + 1) listed a w :=
  wpR_any hr (by simp) (by simpa using ⟨h, h2, h3⟩)
theorem wpR_four {i j k m : Nat} {fuel : Nat} {listed : Array Bool} {a : Act} {w : World} (hr : Region.ready md ops listed = [i, j, k, m])
    (h : wpOp P ops Q i (fun a' w' => G w w' ∧ wpR G P md ops Q fuel (listed.setIfInBounds i true) a' w') a w)
    (h2 : wpOp P ops Q j (fun a' w' => G w w' ∧ wpR G P md ops Q fuel (listed.setIfInBounds j true) a' w') a w)
    (h3 : wpOp P ops Q k (fun a' w' => G w w' ∧ wpR G P md ops Q fuel (listed.setIfInBounds k true) a' w') a w)
    (h4 : wpOp P ops Q m (fun a' w' => G w w' ∧ wpR G P md ops Q fuel (listed.setIfInBounds m true) a' w') a w) : wpR G P md ops Q (fuel + 1) listed a w :=
  wpR_any hr (by simp) (by simpa using ⟨h, h2, h3, h4⟩)

/-- it is carried out -/
theorem wpR_op {l rest : List Oper} {i : Nat} {o : Oper} {a : Act} {w : World} {X : Act → World → Prop} (ho : l.drop i = o :: rest) (hw : Region.wanted o (yielded l.toArray a.tmps) = true)
    (h : ∀ K' : Act → World → Prop, Shut (∀ a' w', G w w' → X a' w' → K' a' w') → Oper.wp P o a w K' Q) : wpOp P l.toArray Q i (fun a' w' => G w w' ∧ X a' w') a w := by
  refine wpOp_step (at_of_drop ho) (fun K' hK => ?_)
  rw [if_pos hw]
  exact h K' (fun a' w' hg hn => hK a' w' ⟨hg, hn⟩)

theorem wpR_done {fuel : Nat} {listed : Array Bool} {a : Act} {w : World} (hr : Region.ready md ops listed = []) (h : Q .normal a w) : wpR G P md ops Q fuel listed a w := by
  cases fuel with
  | zero => exact ⟨hr, h⟩
  | succ n => exact ⟨fun _ => h, by rw [hr]; simp⟩

/-- the same, its parts named -/
theorem wpR_name {l : List Oper} {fuel : Nat} {listed : Array Bool} {a : Act} {w : World}
    (h : ∀ (l' : List Oper) (Q' : Exit → Act → World → Prop) (A0 : Act), l' = l → Q' = Q → A0 = a → wpR G P md l'.toArray Q' fuel listed A0 w) : wpR G P md l.toArray Q fuel listed a w := h _ _ _ rfl rfl rfl
theorem wpR_to {listed : Array Bool} (L : Array Bool) {fuel : Nat} {a : Act} {w : World} (h : listed = L) (H : wpR G P md ops Q fuel L a w) : wpR G P md ops Q fuel listed a w := h ▸ H

/-- the beginning: the world is as it was, but for what was drawn -/
theorem wp_region_R (G : World → World → Prop) {id : Nat} {a : Act} {w : World} {l : List Oper} {n : Nat} (hn : l.length = n) (hm : P.follows .mixedOrders = true)
    (h : ∀ W0, W0.heap = w.heap → Grow w W0 → wpR G P .any l.toArray Q n (Array.replicate n false) a W0) : (Code.region id l.toArray true).wp P Q a w := by
  subst hn
  exact wp_region_any hm (wpAny_of_R (G := G) _ _ _ _ (by simpa using h w.drew rfl (Grow.refl w).drew))
end

theorem grow_new (w : World) (o : Obj) : Grow w (w.alloc o) := (Below.refl _ _).alloc (Nat.le_refl _) _
theorem Nums.grow {k : IntKind} {w w' : World} {A : Option Addr} {xs : List Int} (h : Nums k w w.heap.size A xs) (hg : Grow w w') : Nums k w' w'.heap.size A xs := (h.below hg).more hg.size
end Go.Proofs.YtcnijmmpkahoaaaDoor
