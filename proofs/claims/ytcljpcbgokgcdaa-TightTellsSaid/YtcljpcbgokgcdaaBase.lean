/-
  Grow, Words, Flow, Shp, Counts, Count, Dec, Arr, one behind the other.
-/
import Derived.Deep.RegionHeld3
import Derived.Below
import Derived.Deep.Draws
import Derived.WalkKit
import Derived.ProofKit
import Derived.Laws.OwnMore
import Derived.Deep.OwnRows
import Derived.Laws.Rows
import Derived.Laws.BitsAllLaws
import Derived.Test.YtcljpcbgokgcdaaProg
import Derived.Deep.LoopGhost
import Derived.Lib.Hide
section
/-
  A region that leaves its order open, whose operations read, or make new memory and turn nothing that was there: its readers may be taken first. Nothing is claimed here by itself.
-/
namespace Go.Proofs.Ytcljpcbgokgcdaa
open Go.RowKit

/-- nothing that was there has turned -/
def Grow (w w' : World) : Prop := Below w.heap.size w w'
theorem Grow.refl (w : World) : Grow w w := Below.refl _ _
theorem Grow.trans {a b c : World} (h : Grow a b) (k : Grow b c) : Grow a c := Below.trans h (Below.mono k h.size)
theorem Grow.drew {a b : World} (h : Grow a b) : Grow a b.drew := Below.drew h
theorem Grow.of_drew {a b : World} (h : Grow a.drew b) : Grow a b := ⟨h.os, h.tape, h.output, h.size, h.block⟩
theorem Grow.drewN {a b : World} (h : Grow a b) (n : Nat) : Grow a (b.drewN n) := ⟨h.os, h.tape, h.output, h.size, h.block⟩

section
variable {P : Program} {ops : Array Oper} {Q : Exit → Act → World → Prop} {md : Region.Mode}

/-- whatever order is picked from here on, and nothing that was there turns at any step -/
def wpAnyG (P : Program) (md : Region.Mode) (ops : Array Oper) (Q : Exit → Act → World → Prop) : Nat → Array Bool → Act → World → Prop
  | 0, listed, a, w => Region.ready md ops listed = [] ∧ Q .normal a w
  | fuel + 1, listed, a, w =>
    (Region.ready md ops listed = [] → Q .normal a w) ∧
    ∀ i ∈ Region.ready md ops listed, wpOp P ops Q i (fun a' w' => Grow w w' ∧ wpAnyG P md ops Q fuel (listed.setIfInBounds i true) a' w') a w

theorem wpAny_of_grow : ∀ (fuel : Nat) (listed : Array Bool) (a : Act) (w : World), wpAnyG P md ops Q fuel listed a w → wpAny P md ops Q fuel listed a w
  | 0, _, _, _, h => h
  | fuel + 1, _, _, _, h => ⟨h.1, fun i hi => wpOp_mono (fun a' w' h' => wpAny_of_grow fuel _ a' w' h'.2) (h.2 i hi)⟩

theorem YieldsIf.later {o : Oper} {v : Value} {a : Act} {w w' : World} (h : YieldsIf P ops (Grow w) o v a) (hg : Grow w w') : YieldsIf P ops (Grow w') o v a :=
  h.imp (fun ⟨hw, hv⟩ => ⟨hw, fun x hx => hv x (hg.trans hx)⟩) id

theorem wpAnyG_first {i : Nat} {oi : Oper} {v : Value} (hi : ops[i]? = some oi) (hsel : ∀ (j : Nat) (o : Oper) cs b, ops[j]? = some o → o.op ≠ .select cs b)
    (hQ : ∀ c a w, Q (.panic c) (a.put oi.dst v) w → Q (.panic c) a w) :
    ∀ (fuel : Nat) (listed : Array Bool) (a : Act) (w : World),
      (∀ j oj, ops[j]? = some oj → j ≠ i → listed.getD j true = false → (∀ e ∈ oj.after, Region.binds md e = true → e.on ≠ i) → oi.apart ops oj = true) →
      i ∈ Region.ready md ops listed → YieldsIf P ops (Grow w) oi v a →
      wpAnyG P md ops Q fuel (listed.setIfInBounds i true) (a.put oi.dst v) w → wpAnyG P md ops Q (fuel + 1) listed a w := by
  intro fuel
  induction fuel with
  | zero =>
    intro listed a w _ hr hy H
    refine ⟨fun h => (by rw [h] at hr; cases hr), fun j hj => ?_⟩
    by_cases hji : j = i
    · subst hji; exact hy.wpOp hi (Grow.refl w) ⟨Grow.refl w, H⟩
    · have := ready_mono hj hji
      rw [H.1] at this
      cases this
  | succ fuel ih =>
    intro listed a w hfree hr hy H
    refine ⟨fun h => (by rw [h] at hr; cases hr), fun j hj => ?_⟩
    by_cases hji : j = i
    · subst hji; exact hy.wpOp hi (Grow.refl w) ⟨Grow.refl w, H⟩
    · have h1 := H.2 j (ready_mono hj hji)
      obtain ⟨hjun, oj, hoj, hall⟩ := mem_ready.1 hj
      have hnot : ∀ e ∈ oj.after, Region.binds md e = true → e.on ≠ i := fun e he hb heq => by
        have h1 := hall e he hb
        have h0 := (mem_ready.1 hr).1
        rw [heq] at h1
        rcases Nat.lt_or_ge i listed.size with h' | h'
        · simp [h'] at h0 h1; rw [h0] at h1; cases h1
        · simp [Array.getElem?_eq_none h'] at h1
      have h2 := wpOp_putIf hoj (hfree j oj hoj hji hjun hnot) (fun cs b => hsel i oi cs b hi) (fun cs b => hsel j oj cs b hoj) hQ hy h1
      have hfree' : ∀ k ok, ops[k]? = some ok → k ≠ i → (listed.setIfInBounds j true).getD k true = false →
          (∀ e ∈ ok.after, Region.binds md e = true → e.on ≠ i) → oi.apart ops ok = true := fun k ok hk hki hun hno => by
        refine hfree k ok hk hki ?_ hno
        by_cases hjk : j = k
        · subst hjk; exact hjun
        · rw [getD_set_ne true hjk] at hun; exact hun
      refine wpOp_mono (fun a' w' h3 => ⟨h3.2.1, ih (listed.setIfInBounds j true) a' w' hfree' (ready_mono hr (Ne.symm hji)) (YieldsIf.later h3.1 h3.2.1) ?_⟩) h2
      rw [Array.setIfInBounds_comm _ _ hji]
      exact h3.2.2

theorem at_of_drop {l rest : List Oper} {i : Nat} {o : Oper} (h : l.drop i = o :: rest) : l.toArray[i]? = some o := by
  have : (l.drop i)[0]? = some o := by rw [h]; rfl
  simpa using this

/-- number i is read first -/
theorem wpAnyG_take {l rest : List Oper} {i : Nat} {oi : Oper} {v : Value} {fuel : Nat} {listed : Array Bool} {a : Act} {w : World} (hi : l.drop i = oi :: rest)
    (hs : Region.noSelect l.toArray = true) (hf : Region.free md l.toArray listed i = true) (hr : (Region.ready md l.toArray listed).contains i = true)
    (hQ : ∀ c a w, Q (.panic c) (a.put oi.dst v) w → Q (.panic c) a w) (hw : Region.wanted oi (yielded l.toArray a.tmps) = true)
    (hy : ∀ x, Grow w x → (execOp a.eval oi).run P x = .ok (.value v) x)
    (h : wpAnyG P md l.toArray Q fuel (listed.setIfInBounds i true) (a.put oi.dst v) w) : wpAnyG P md l.toArray Q (fuel + 1) listed a w :=
  wpAnyG_first (at_of_drop hi) (Region.noSelect_spec hs) hQ fuel listed a w (Region.free_spec (at_of_drop hi) hf) (by simpa using hr) (.inl ⟨hw, hy⟩) h

/-- number i is passed over: its guard says no -/
theorem wpAnyG_pass {l rest : List Oper} {i : Nat} {oi : Oper} {fuel : Nat} {listed : Array Bool} {a : Act} {w : World} (hi : l.drop i = oi :: rest)
    (hs : Region.noSelect l.toArray = true) (hf : Region.free md l.toArray listed i = true) (hr : (Region.ready md l.toArray listed).contains i = true)
    (hQ : ∀ c a w, Q (.panic c) (a.put oi.dst undef) w → Q (.panic c) a w) (hw : Region.wanted oi (yielded l.toArray a.tmps) = false)
    (h : wpAnyG P md l.toArray Q fuel (listed.setIfInBounds i true) (a.put oi.dst undef) w) : wpAnyG P md l.toArray Q (fuel + 1) listed a w :=
  wpAnyG_first (at_of_drop hi) (Region.noSelect_spec hs) hQ fuel listed a w (Region.free_spec (at_of_drop hi) hf) (by simpa using hr) (.inr ⟨hw, rfl⟩) h

/-- number i alone may come up: it is carried out -/
theorem wpAnyG_one {l rest : List Oper} {i : Nat} {o : Oper} {fuel : Nat} {listed : Array Bool} {a : Act} {w : World} (ho : l.drop i = o :: rest) (hr : Region.ready md l.toArray listed = [i]) (hw : Region.wanted o (yielded l.toArray a.tmps) = true)
    (h : ∀ K' : Act → World → Prop, Shut (∀ a' w', Grow w w' → wpAnyG P md l.toArray Q fuel (listed.setIfInBounds i true) a' w' → K' a' w') → Oper.wp P o a w K' Q) : wpAnyG P md l.toArray Q (fuel + 1) listed a w := by
  refine ⟨fun h0 => absurd (hr.symm.trans h0) (by simp), fun j hj => ?_⟩
  rw [hr] at hj
  obtain rfl := List.mem_singleton.1 hj
  refine wpOp_step (at_of_drop ho) (fun K' hK => ?_)
  rw [if_pos hw]
  exact h K' (fun a' w' hg hn => hK a' w' ⟨hg, hn⟩)

theorem wpAnyG_done {fuel : Nat} {listed : Array Bool} {a : Act} {w : World} (hr : Region.ready md ops listed = []) (h : Q .normal a w) : wpAnyG P md ops Q fuel listed a w := by
  cases fuel with
  | zero => exact ⟨hr, h⟩
  | succ n => exact ⟨fun _ => h, by rw [hr]; simp⟩

/-- the beginning -/
theorem wp_region_grow {id : Nat} {a : Act} {w : World} {l : List Oper} {n : Nat} (hn : l.length = n) (hm : P.follows .mixedOrders = true)
    (h : wpAnyG P .any l.toArray Q n (Array.replicate n false) a w.drew) : (Code.region id l.toArray true).wp P Q a w := by
  subst hn
  exact wp_region_any hm (wpAny_of_grow _ _ _ _ (by simpa using h))
end
end Go.Proofs.Ytcljpcbgokgcdaa
end

section
/-
  Plain words on memory: a slice that reads as a list of numbers. Nothing is claimed here by itself.
-/
namespace Go.Proofs.Ytcljpcbgokgcdaa
open Go.RowKit

theorem below_drewN {B : Nat} {a w : World} (h : Below B a w) (n : Nat) : Below B a (w.drewN n) := ⟨h.os, h.tape, h.output, h.size, h.block⟩
theorem rowIs_drewN {w : World} {b : Nat} {t : TypeId} {n : Nat} {f : Nat → Value} (h : w.rowIs b t n f) (k : Nat) : (w.drewN k).rowIs b t n f := h
theorem rowIs_below {w w' : World} {b B : Nat} {t : TypeId} {n : Nat} {f : Nat → Value} (h : w.rowIs b t n f) (hb : Below B w w') (hB : b < B) : w'.rowIs b t n f := h.of_block (hb.block b hB)

/-- the slice at address A holds the numbers xs, of kind k; it lies below block B -/
def Nums (k : IntKind) (w : World) (B : Nat) (A : Option Addr) (xs : List Int) : Prop :=
  0 < xs.length → ∃ b off, A = some ⟨b, off, none⟩ ∧ b < B ∧ ∀ i, i < xs.length → w.cell? ⟨b, off + i, none⟩ = some (.int k (xs.getD i 0))

section
variable {k : IntKind} {w w' : World} {B B' : Nat} {A : Option Addr} {xs : List Int}
theorem Nums.keep (h : Nums k w B A xs) (hk : ∀ p : Addr, p.block < B → w'.cell? p = w.cell? p) : Nums k w' B A xs := fun hn => by
  obtain ⟨b, off, e, hb, hc⟩ := h hn
  exact ⟨b, off, e, hb, fun i hi => (hk _ hb).trans (hc i hi)⟩
theorem Nums.more (h : Nums k w B A xs) (hB : B ≤ B') : Nums k w B' A xs := fun hn => by
  obtain ⟨b, off, e, hb, hc⟩ := h hn
  exact ⟨b, off, e, by omega, hc⟩
theorem Nums.below (h : Nums k w B A xs) (hb : Below B w w') : Nums k w' B A xs := h.keep fun _ hp => hb.cell hp
theorem Nums.drewN (h : Nums k w B A xs) (n : Nat) : Nums k (w.drewN n) B A xs := h
theorem Nums.drew (h : Nums k w B A xs) : Nums k w.drew B A xs := h
theorem Nums.none_ : Nums k w B A [] := fun h => absurd h (by simp)
theorem Nums.of_row {g : Nat} {t : TypeId} (h : w.rowIs g t xs.length fun i => .int k (xs.getD i 0)) : Nums k w w.heap.size (some ⟨g, 0, none⟩) xs := fun _ =>
  ⟨g, 0, rfl, h.lt, fun i hi => by simpa using h.cell hi⟩
theorem Nums.take (h : Nums k w B A xs) (n : Nat) : Nums k w B A (xs.take n) := fun hn => by
  have hl : (xs.take n).length ≤ xs.length := by simp; omega
  obtain ⟨b, off, e, hb, hc⟩ := h (by omega)
  refine ⟨b, off, e, hb, fun i hi => ?_⟩
  rw [hc i (by omega)]
  have : i < n := by simp at hi; omega
  simp [this]
end
end Go.Proofs.Ytcljpcbgokgcdaa
end

section
/-
  A region that leaves its order open, some of whose operations make new memory: its readers may be taken first, and what makes memory comes in every order that may be. Nothing is claimed here by itself.
-/
namespace Go.Proofs.Ytcljpcbgokgcdaa
open Go.RowKit

/-- what holds of a world and one that comes later -/
structure Ord (G : World → World → Prop) : Prop where
  refl : ∀ w, G w w
  trans : ∀ {a b c}, G a b → G b c → G a c
theorem growOrd : Ord Grow := ⟨Grow.refl, Grow.trans⟩
theorem belowOrd (B : Nat) : Ord (Below B) := ⟨Below.refl B, Below.trans⟩

section
variable {P : Program} {ops : Array Oper} {Q : Exit → Act → World → Prop} {md : Region.Mode} {G : World → World → Prop}

/-- whatever order is picked from here on, and G holds at every step -/
def wpR (G : World → World → Prop) (P : Program) (md : Region.Mode) (ops : Array Oper) (Q : Exit → Act → World → Prop) : Nat → Array Bool → Act → World → Prop
  | 0, listed, a, w => Region.ready md ops listed = [] ∧ Q .normal a w
  | fuel + 1, listed, a, w =>
    (Region.ready md ops listed = [] → Q .normal a w) ∧
    ∀ i ∈ Region.ready md ops listed, wpOp P ops Q i (fun a' w' => G w w' ∧ wpR G P md ops Q fuel (listed.setIfInBounds i true) a' w') a w

theorem wpAny_of_R : ∀ (fuel : Nat) (listed : Array Bool) (a : Act) (w : World), wpR G P md ops Q fuel listed a w → wpAny P md ops Q fuel listed a w
  | 0, _, _, _, h => h
  | fuel + 1, _, _, _, h => ⟨h.1, fun i hi => wpOp_mono (fun a' w' h' => wpAny_of_R fuel _ a' w' h'.2) (h.2 i hi)⟩

theorem laterR (hG : Ord G) {o : Oper} {v : Value} {a : Act} {w w' : World} (h : YieldsIf P ops (G w) o v a) (hg : G w w') : YieldsIf P ops (G w') o v a :=
  h.imp (fun ⟨hw, hv⟩ => ⟨hw, fun x hx => hv x (hG.trans hg hx)⟩) id

theorem wpR_first (hG : Ord G) {i : Nat} {oi : Oper} {v : Value} (hi : ops[i]? = some oi) (hsel : ∀ (j : Nat) (o : Oper) cs b, ops[j]? = some o → o.op ≠ .select cs b)
    (hQ : ∀ c a w, Q (.panic c) (a.put oi.dst v) w → Q (.panic c) a w) :
    ∀ (fuel : Nat) (listed : Array Bool) (a : Act) (w : World),
      (∀ j oj, ops[j]? = some oj → j ≠ i → listed.getD j true = false → (∀ e ∈ oj.after, Region.binds md e = true → e.on ≠ i) → oi.apart ops oj = true) →
      i ∈ Region.ready md ops listed → YieldsIf P ops (G w) oi v a →
      wpR G P md ops Q fuel (listed.setIfInBounds i true) (a.put oi.dst v) w → wpR G P md ops Q (fuel + 1) listed a w := by
  intro fuel
  induction fuel with
  | zero =>
    intro listed a w _ hr hy H
    refine ⟨fun h => (by rw [h] at hr; cases hr), fun j hj => ?_⟩
    by_cases hji : j = i
    · subst hji; exact hy.wpOp hi (hG.refl w) ⟨hG.refl w, H⟩
    · have := ready_mono hj hji
      rw [H.1] at this
      cases this
  | succ fuel ih =>
    intro listed a w hfree hr hy H
    refine ⟨fun h => (by rw [h] at hr; cases hr), fun j hj => ?_⟩
    by_cases hji : j = i
    · subst hji; exact hy.wpOp hi (hG.refl w) ⟨hG.refl w, H⟩
    · have h1 := H.2 j (ready_mono hj hji)
      obtain ⟨hjun, oj, hoj, hall⟩ := mem_ready.1 hj
      have hnot : ∀ e ∈ oj.after, Region.binds md e = true → e.on ≠ i := fun e he hb heq => by
        have h1 := hall e he hb
        have h0 := (mem_ready.1 hr).1
        rw [heq] at h1
        rcases Nat.lt_or_ge i listed.size with h' | h'
        · simp [h'] at h0 h1; rw [h0] at h1; cases h1
        · simp [Array.getElem?_eq_none h'] at h1
      have h2 := wpOp_putIf hoj (hfree j oj hoj hji hjun hnot) (fun cs b => hsel i oi cs b hi) (fun cs b => hsel j oj cs b hoj) hQ hy h1
      have hfree' : ∀ k ok, ops[k]? = some ok → k ≠ i → (listed.setIfInBounds j true).getD k true = false →
          (∀ e ∈ ok.after, Region.binds md e = true → e.on ≠ i) → oi.apart ops ok = true := fun k ok hk hki hun hno => by
        refine hfree k ok hk hki ?_ hno
        by_cases hjk : j = k
        · subst hjk; exact hjun
        · rw [getD_set_ne true hjk] at hun; exact hun
      refine wpOp_mono (fun a' w' h3 => ⟨h3.2.1, ih (listed.setIfInBounds j true) a' w' hfree' (ready_mono hr (Ne.symm hji)) (laterR hG h3.1 h3.2.1) ?_⟩) h2
      rw [Array.setIfInBounds_comm _ _ hji]
      exact h3.2.2

/-- number i is read first -/
theorem wpR_take (hG : Ord G) {l rest : List Oper} {i : Nat} {oi : Oper} {v : Value} {fuel : Nat} {listed : Array Bool} {a : Act} {w : World} (hi : l.drop i = oi :: rest)
    (hs : Region.noSelect l.toArray = true) (hf : Region.free md l.toArray listed i = true) (hr : (Region.ready md l.toArray listed).contains i = true)
    (hQ : ∀ c a w, Q (.panic c) (a.put oi.dst v) w → Q (.panic c) a w) (hw : Region.wanted oi (yielded l.toArray a.tmps) = true)
    (hy : ∀ x, G w x → (execOp a.eval oi).run P x = .ok (.value v) x)
    (h : wpR G P md l.toArray Q fuel (listed.setIfInBounds i true) (a.put oi.dst v) w) : wpR G P md l.toArray Q (fuel + 1) listed a w :=
  wpR_first hG (at_of_drop hi) (Region.noSelect_spec hs) hQ fuel listed a w (Region.free_spec (at_of_drop hi) hf) (by simpa using hr) (.inl ⟨hw, hy⟩) h

/-- number i is passed over: its guard says no -/
theorem wpR_pass (hG : Ord G) {l rest : List Oper} {i : Nat} {oi : Oper} {fuel : Nat} {listed : Array Bool} {a : Act} {w : World} (hi : l.drop i = oi :: rest)
    (hs : Region.noSelect l.toArray = true) (hf : Region.free md l.toArray listed i = true) (hr : (Region.ready md l.toArray listed).contains i = true)
    (hQ : ∀ c a w, Q (.panic c) (a.put oi.dst undef) w → Q (.panic c) a w) (hw : Region.wanted oi (yielded l.toArray a.tmps) = false)
    (h : wpR G P md l.toArray Q fuel (listed.setIfInBounds i true) (a.put oi.dst undef) w) : wpR G P md l.toArray Q (fuel + 1) listed a w :=
  wpR_first hG (at_of_drop hi) (Region.noSelect_spec hs) hQ fuel listed a w (Region.free_spec (at_of_drop hi) hf) (by simpa using hr) (.inr ⟨hw, rfl⟩) h

/-- what may be carried out next: one, two, three or four -/
theorem wpR_any {is : List Nat} {fuel : Nat} {listed : Array Bool} {a : Act} {w : World} (hr : Region.ready md ops listed = is) (hne : is ≠ [])
    (h : ∀ i ∈ is, wpOp P ops Q i (fun a' w' => G w w' ∧ wpR G P md ops Q fuel (listed.setIfInBounds i true) a' w') a w) : wpR G P md ops Q (fuel + 1) listed a w :=
  ⟨fun h0 => absurd (hr.symm.trans h0) hne, fun i hi => h i (hr ▸ hi)⟩
theorem wpR_one {i : Nat} {fuel : Nat} {listed : Array Bool} {a : Act} {w : World} (hr : Region.ready md ops listed = [i])
    (h : wpOp P ops Q i (fun a' w' => G w w' ∧ wpR G P md ops Q fuel (listed.setIfInBounds i true) a' w') a w) : wpR G P md ops Q (fuel + 1) listed a w :=
  wpR_any hr (by simp) (by simpa using h)
theorem wpR_two {i j : Nat} {fuel : Nat} {listed : Array Bool} {a : Act} {w : World} (hr : Region.ready md ops listed = [i, j])
    (h : wpOp P ops Q i (fun a' w' => G w w' ∧ wpR G P md ops Q fuel (listed.setIfInBounds i true) a' w') a w)
    (h2 : wpOp P ops Q j (fun a' w' => G w w' ∧ wpR G P md ops Q fuel (listed.setIfInBounds j true) a' w') a w) : wpR G P md ops Q (fuel + 1) listed a w :=
  wpR_any hr (by simp) (by simpa using ⟨h, h2⟩)
theorem wpR_three {i j k : Nat} {fuel : Nat} {listed : Array Bool} {a : Act} {w : World} (hr : Region.ready md ops listed = [i, j, k])
    (h : wpOp P ops Q i (fun a' w' => G w w' ∧ wpR G P md ops Q fuel (listed.setIfInBounds i true) a' w') a w)
    (h2 : wpOp P ops Q j (fun a' w' => G w w' ∧ wpR G P md ops Q fuel (listed.setIfInBounds j true) a' w') a w)
    (h3 : wpOp P ops Q k (fun a' w' => G w w' ∧ wpR G P md ops Q fuel (listed.setIfInBounds k true) a' w') a w) : wpR G P md ops Q (fuel + 1) listed a w :=
  wpR_any hr (by simp) (by simpa using ⟨h, h2, h3⟩)
theorem wpR_four {i j k m : Nat} {fuel : Nat} {listed : Array Bool} {a : Act} {w : World} (hr : Region.ready md ops listed = [i, j, k, m])
    (h : wpOp P ops Q i (fun a' w' => G w w' ∧ wpR G P md ops Q fuel (listed.setIfInBounds i true) a' w') a w)
    (h2 : wpOp P ops Q j (fun a' w' => G w w' ∧ wpR G P md ops Q fuel (listed.setIfInBounds j true) a' w') a w)
    (h3 : wpOp P ops Q k (fun a' w' => G w w' ∧ wpR G P md ops Q fuel (listed.setIfInBounds k true) a' w') a w)
    (h4 : wpOp P ops Q m (fun a' w' => G w w' ∧ wpR G P md ops Q fuel (listed.setIfInBounds m true) a' w') a w) : wpR G P md ops Q (fuel + 1) listed a w :=
  wpR_any hr (by simp) (by simpa using ⟨h, h2, h3, h4⟩)

/-- it is carried out -/
theorem wpR_op {l rest : List Oper} {i : Nat} {o : Oper} {a : Act} {w : World} {X : Act → World → Prop} (ho : l.drop i = o :: rest) (hw : Region.wanted o (yielded l.toArray a.tmps) = true)
    (h : ∀ K' : Act → World → Prop, Shut (∀ a' w', G w w' → X a' w' → K' a' w') → Oper.wp P o a w K' Q) : wpOp P l.toArray Q i (fun a' w' => G w w' ∧ X a' w') a w := by
  refine wpOp_step (at_of_drop ho) (fun K' hK => ?_)
  rw [if_pos hw]
  exact h K' (fun a' w' hg hn => hK a' w' ⟨hg, hn⟩)

theorem wpR_done {fuel : Nat} {listed : Array Bool} {a : Act} {w : World} (hr : Region.ready md ops listed = []) (h : Q .normal a w) : wpR G P md ops Q fuel listed a w := by
  cases fuel with
  | zero => exact ⟨hr, h⟩
  | succ n => exact ⟨fun _ => h, by rw [hr]; simp⟩

/-- the same, its parts named -/
theorem wpR_name {l : List Oper} {fuel : Nat} {listed : Array Bool} {a : Act} {w : World}
    (h : ∀ (l' : List Oper) (Q' : Exit → Act → World → Prop) (A0 : Act), l' = l → Q' = Q → A0 = a → wpR G P md l'.toArray Q' fuel listed A0 w) : wpR G P md l.toArray Q fuel listed a w := h _ _ _ rfl rfl rfl
theorem wpR_to {listed : Array Bool} (L : Array Bool) {fuel : Nat} {a : Act} {w : World} (h : listed = L) (H : wpR G P md ops Q fuel L a w) : wpR G P md ops Q fuel listed a w := h ▸ H

/-- the beginning: the world is as it was, but for what was drawn -/
theorem wp_region_R (G : World → World → Prop) {id : Nat} {a : Act} {w : World} {l : List Oper} {n : Nat} (hn : l.length = n) (hm : P.follows .mixedOrders = true)
    (h : ∀ W0, W0.heap = w.heap → Grow w W0 → wpR G P .any l.toArray Q n (Array.replicate n false) a W0) : (Code.region id l.toArray true).wp P Q a w := by
  subst hn
  exact wp_region_any hm (wpAny_of_R (G := G) _ _ _ _ (by simpa using h w.drew rfl (Grow.refl w).drew))
end

theorem grow_new (w : World) (o : Obj) : Grow w (w.alloc o) := (Below.refl _ _).alloc (Nat.le_refl _) _
theorem Nums.grow {k : IntKind} {w w' : World} {A : Option Addr} {xs : List Int} (h : Nums k w w.heap.size A xs) (hg : Grow w w') : Nums k w' w'.heap.size A xs := (h.below hg).more hg.size
end Go.Proofs.Ytcljpcbgokgcdaa
end

section
/-
  Shapes as lists: how many items there are, where an item is, and its place. Nothing is claimed here by itself.
-/
namespace Go.Proofs.Ytcljpcbgokgcdaa
set_option linter.unusedVariables false

def prodN : List Nat → Nat
  | [] => 1
  | x :: xs => x * prodN xs
def toN (xs : List Int) : List Nat := xs.map Int.toNat
def ofN (ns : List Nat) : List Int := ns.map fun n => ((n : Nat) : Int)
def okI (x : Int) : Bool := decide (0 ≤ x) && decide (x ≤ 1048576)
/-- a right shape -/
def rightB (xs : List Int) : Bool := decide (xs.length ≤ 16) && (xs.all okI && decide (prodN (toN xs) ≤ 1048576))
def cnt (xs : List Int) : Nat := if rightB xs = true then prodN (toN xs) else 0
def inB : List Int → List Int → Bool
  | [], [] => true
  | x :: xs, a :: ys => (decide (0 ≤ a) && decide (a < x)) && inB xs ys
  | _, _ => false
def hor : Nat → List Nat → List Nat → Nat
  | p, x :: xs, a :: ys => hor (p * x + a) xs ys
  | p, _, _ => p
def plcB (xs ys : List Int) : Bool := rightB xs && inB xs ys
def plc (xs ys : List Int) : Nat := if plcB xs ys = true then hor 0 (toN xs) (toN ys) else 0
def digs : List Nat → Nat → List Nat
  | [], _ => []
  | x :: xs, i => i / prodN xs % x :: digs xs i
def indB (xs : List Int) (i : Int) : Bool := rightB xs && (decide (0 ≤ i) && decide (i < prodN (toN xs)))
def ind (xs : List Int) (i : Int) : List Int := if indB xs i = true then ofN (digs (toN xs) i.toNat) else []
/-- numbers within -/
def InN : List Nat → List Nat → Prop
  | [], [] => True
  | x :: xs, a :: ys => a < x ∧ InN xs ys
  | _, _ => False

theorem prod_app (a b : List Nat) : prodN (a ++ b) = prodN a * prodN b := by
  induction a with
  | nil => simp [prodN]
  | cons x a ih => simp [prodN, ih, Nat.mul_assoc]
theorem prod_pos {xs : List Nat} (h : ∀ x ∈ xs, 0 < x) : 0 < prodN xs := by
  induction xs with
  | nil => simp [prodN]
  | cons x xs ih => exact Nat.mul_pos (h x (by simp)) (ih fun y hy => h y (by simp [hy]))
theorem prod_zero {xs : List Nat} (h : 0 ∈ xs) : prodN xs = 0 := by
  induction xs with
  | nil => cases h
  | cons x xs ih =>
    rcases List.mem_cons.1 h with h | h
    · subst h; simp [prodN]
    · simp [prodN, ih h]
theorem pos_of_prod {xs : List Nat} (h : prodN xs ≠ 0) : ∀ x ∈ xs, 0 < x := by
  intro x hx
  rcases Nat.eq_zero_or_pos x with h0 | h0
  · subst h0; exact absurd (prod_zero hx) h
  · exact h0
theorem toN_ofN (ns : List Nat) : toN (ofN ns) = ns := by
  induction ns with
  | nil => rfl
  | cons x ns ih =>
    simp [toN, ofN] at ih ⊢
    exact ih
theorem ofN_len (ns : List Nat) : (ofN ns).length = ns.length := by simp [ofN]
theorem toN_len (xs : List Int) : (toN xs).length = xs.length := by simp [toN]
theorem digs_len (xs : List Nat) (i : Nat) : (digs xs i).length = xs.length := by
  induction xs with
  | nil => rfl
  | cons x xs ih => simp [digs, ih]
theorem ofN_toN {xs : List Int} (h : xs.all okI = true) : ofN (toN xs) = xs := by
  induction xs with
  | nil => rfl
  | cons x xs ih =>
    simp only [List.all_cons, Bool.and_eq_true, okI, decide_eq_true_eq] at h
    have := ih h.2
    simp only [toN, ofN, List.map_cons] at this ⊢
    rw [this, Int.toNat_of_nonneg h.1.1]

theorem hor_step (q : Nat) : ∀ (xs ys : List Nat), InN xs ys → hor q xs ys = q * prodN xs + hor 0 xs ys ∧ hor 0 xs ys < prodN xs
  | [], [], _ => by simp [hor, prodN]
  | x :: xs, a :: ys, h => by
    obtain ⟨h1, h2⟩ := h
    have e1 := (hor_step (q * x + a) xs ys h2).1
    obtain ⟨e2, e3⟩ := hor_step (0 * x + a) xs ys h2
    have e4 : hor q (x :: xs) (a :: ys) = hor (q * x + a) xs ys := rfl
    have e5 : hor 0 (x :: xs) (a :: ys) = hor (0 * x + a) xs ys := rfl
    rw [e4, e5, e1, e2, prodN]
    refine ⟨by rw [Nat.zero_mul, Nat.zero_add, Nat.add_mul, Nat.mul_assoc]; omega, ?_⟩
    rw [Nat.zero_mul, Nat.zero_add]
    have : (a + 1) * prodN xs ≤ x * prodN xs := Nat.mul_le_mul_right _ h1
    rw [Nat.add_mul, Nat.one_mul] at this
    omega
theorem digs_hor (q : Nat) : ∀ (xs ys : List Nat), InN xs ys → digs xs (hor q xs ys) = ys
  | [], [], _ => rfl
  | x :: xs, a :: ys, h => by
    obtain ⟨h1, h2⟩ := h
    have e4 : hor q (x :: xs) (a :: ys) = hor (q * x + a) xs ys := rfl
    rw [digs, e4, digs_hor (q * x + a) xs ys h2]
    obtain ⟨e1, e2⟩ := hor_step (q * x + a) xs ys h2
    have hP : 0 < prodN xs := by omega
    have e5 : hor (q * x + a) xs ys / prodN xs = q * x + a := by
      rw [e1, Nat.add_comm, Nat.add_mul_div_right _ _ hP, Nat.div_eq_of_lt e2, Nat.zero_add]
    rw [e5, Nat.add_comm, Nat.add_mul_mod_self_right, Nat.mod_eq_of_lt h1]
theorem in_digs : ∀ (xs : List Nat) (i : Nat), (∀ x ∈ xs, 0 < x) → InN xs (digs xs i)
  | [], _, _ => trivial
  | x :: xs, i, h => ⟨Nat.mod_lt _ (h x (by simp)), in_digs xs i fun y hy => h y (by simp [hy])⟩
theorem hor_digs (i : Nat) : ∀ (xs : List Nat) (q : Nat), (∀ x ∈ xs, 0 < x) → hor q xs (digs xs i) = q * prodN xs + i % prodN xs
  | [], q, _ => by simp [hor, prodN, Nat.mod_one]
  | x :: xs, q, h => by
    have e4 : hor q (x :: xs) (digs (x :: xs) i) = hor (q * x + i / prodN xs % x) xs (digs xs i) := rfl
    rw [e4, hor_digs i xs _ fun y hy => h y (by simp [hy]), prodN, Nat.mul_comm x (prodN xs), Nat.mod_mul, Nat.add_mul, Nat.mul_assoc, Nat.mul_comm x (prodN xs), Nat.mul_comm (i / prodN xs % x)]
    omega

theorem in_of : ∀ {xs ys : List Int}, inB xs ys = true → ofN (toN ys) = ys ∧ InN (toN xs) (toN ys) ∧ ys.length = xs.length
  | [], [], _ => ⟨rfl, trivial, rfl⟩
  | x :: xs, a :: ys, h => by
    simp only [inB, Bool.and_eq_true, decide_eq_true_eq] at h
    obtain ⟨⟨h1, h2⟩, h3⟩ := h
    obtain ⟨e1, e2, e3⟩ := in_of h3
    refine ⟨?_, ⟨by omega, e2⟩, by simp [e3]⟩
    simp only [toN, ofN, List.map_cons] at e1 ⊢
    rw [e1, Int.toNat_of_nonneg h1]
  | [], _ :: _, h => by cases h
  | _ :: _, [], h => by cases h
theorem in_to : ∀ {xs ys : List Nat}, InN xs ys → inB (ofN xs) (ofN ys) = true
  | [], [], _ => rfl
  | x :: xs, a :: ys, h => by
    have := in_to h.2
    have h1 := h.1
    simp only [ofN, List.map_cons, inB, Bool.and_eq_true, decide_eq_true_eq] at this ⊢
    exact ⟨⟨by omega, by omega⟩, this⟩
theorem in_zero : ∀ {xs ys : List Int}, prodN (toN xs) = 0 → inB xs ys = false
  | [], [], h => by simp [toN, prodN] at h
  | [], _ :: _, _ => rfl
  | _ :: _, [], _ => rfl
  | x :: xs, a :: ys, h => by
    have h' : x.toNat * prodN (toN xs) = 0 := h
    rcases Nat.mul_eq_zero.1 h' with h0 | h0
    · have : ¬ (0 ≤ a ∧ a < x) := by omega
      simp only [inB]
      rw [Bool.and_eq_false_iff]
      left
      simp only [Bool.and_eq_false_iff, decide_eq_false_iff_not]
      omega
    · simp [inB, in_zero (ys := ys) h0]
theorem in_len : ∀ {xs ys : List Int}, ys.length ≠ xs.length → inB xs ys = false
  | [], [], h => absurd rfl h
  | [], _ :: _, _ => rfl
  | _ :: _, [], _ => rfl
  | x :: xs, a :: ys, h => by simp [inB, in_len (xs := xs) (ys := ys) (by simpa using h)]

theorem right_iff {xs : List Int} : rightB xs = true ↔ xs.length ≤ 16 ∧ xs.all okI = true ∧ prodN (toN xs) ≤ 1048576 := by simp [rightB]
theorem drop_at {α : Type} {xs : List α} {k : Nat} (d : α) (h : k < xs.length) : xs.drop k = xs.getD k d :: xs.drop (k + 1) := by
  rw [List.drop_eq_getElem_cons h]
  simp [List.getD, h]
end Go.Proofs.Ytcljpcbgokgcdaa
end

section
/-
  What shape.Count comes to, called with any numbers.
-/
namespace Go.Proofs.Ytcljpcbgokgcdaa
open Go.RowKit Go.Lib
set_option linter.unusedSimpArgs false
set_option linter.unusedVariables false

/-- its answer is v, and the world is as it was -/
def Gives (v : Value) (w : World) (e : Ending) (w' : World) : Prop := e = .returned v ∧ w' = w

theorem beyond_any (x : Int) (w : World) : Calls Try.prog 51 #[.int .i64 x] w (Gives (.bool (!okI x)) w) := by
  by_cases h0 : x < 0
  · have e : okI x = false := by simp [okI]; omega
    rw [e]
    clear e
    go_enter Try.func51, Try.ntmps51
    go_wp2
    go_ret
    exact ⟨rfl, rfl⟩
  · by_cases h1 : 1048576 < x
    · have e : okI x = false := by simp [okI]; omega
      rw [e]
      clear e
      go_enter Try.func51, Try.ntmps51
      go_wp2
      go_ret
      exact ⟨rfl, rfl⟩
    · have e : okI x = true := by simp [okI]; omega
      rw [e]
      clear e
      go_enter Try.func51, Try.ntmps51
      go_wp2
      go_ret
      exact ⟨rfl, rfl⟩

theorem all_drop {p : Int → Bool} {xs : List Int} {k : Nat} (h : k < xs.length) (hx : p (xs.getD k 0) = true) : (xs.drop k).all p = (xs.drop (k + 1)).all p := by
  rw [drop_at 0 h, List.all_cons, hx, Bool.true_and]
theorem all_fails {p : Int → Bool} {xs : List Int} {k : Nat} (h : k < xs.length) (hx : p (xs.getD k 0) = false) : (xs.drop k).all p = false := by
  rw [drop_at 0 h, List.all_cons, hx, Bool.false_and]

/-- the place of the first number that is not so, or -1 -/
def Finds (p : Int → Bool) (xs : List Int) (w : World) (e : Ending) (w' : World) : Prop :=
  ∃ j : Int, e = .returned (.int .i64 j) ∧ decide (0 ≤ j) = !(xs.all p) ∧ w' = w

set_option maxRecDepth 10000 in
set_option maxHeartbeats 800000 in
theorem indexf_any (A : Option Addr) (n c : Nat) (xs : List Int) (w : World) (hn : xs.length = n) (hm : n ≤ 9223372036854775807) (hr : Nums .i64 w w.heap.size A xs) :
    Calls Try.prog 71 #[.slice A n c, .func (.func 51) #[] #[]] w (Finds okI xs w) := by
  have HR := Lib.hid hr
  have HN := Lib.hid hn
  clear hr hn
  go_enter Try.func71, Try.ntmps71
  go_wp2
  go_loopg [8] n (fun g s8 wr => ∃ k : Nat, k ≤ n ∧ g = n - k ∧ s8 = .int .i64 k ∧ Hid ((xs.drop k).all okI = xs.all okI) ∧ w = wr)
  case atStart => exact ⟨0, Nat.zero_le _, rfl, rfl, Lib.hid rfl, rfl⟩
  case round =>
    obtain ⟨k, hk, rfl, rfl, HA, rfl⟩ := hrel
    by_cases hlt : k < n
    · have hkl : k < xs.length := by rw [HN.out]; exact hlt
      obtain ⟨b, off, rfl, hb, hcl⟩ := HR.out (by omega)
      have hc := hcl k hkl
      have HT := Lib.hid (fun h => all_drop (p := okI) hkl h)
      have HF := Lib.hid (fun h => all_fails (p := okI) hkl h)
      clear hcl hkl
      generalize xs.getD k 0 = x at hc HT HF
      cases hx : okI x with
      | true =>
        have HT' := Lib.hid (HT.out hx)
        have hx' : (!okI x) = false := by rw [hx]; rfl
        have HB := Lib.hid (beyond_any x w)
        rw [hx'] at HB
        clear hx hx' HT HF
        go_wp2_with (go_at_call 51; refine (HB.out).mono ?_; rintro e w2 ⟨rfl, rfl⟩)
        go_roundg (n - (k + 1))
        case rel => exact ⟨k + 1, by omega, rfl, by go_num, Lib.hid (HT'.out.symm.trans HA.out), rfl⟩
        case measure => omega
      | false =>
        have HF' := Lib.hid (HF.out hx)
        have hx' : (!okI x) = true := by rw [hx]; rfl
        have HB := Lib.hid (beyond_any x w)
        rw [hx'] at HB
        clear hx hx' HT HF
        go_wp2_with (go_at_call 51; refine (HB.out).mono ?_; rintro e w2 ⟨rfl, rfl⟩)
        go_ret
        refine ⟨_, rfl, ?_, rfl⟩
        rw [← HA.out, HF'.out]
        simp
    · obtain rfl : n = k := by omega
      have HF := Lib.hid (show xs.all okI = true by rw [← HA.out, List.drop_of_length_le (by rw [HN.out]; exact Nat.le_refl _)]; rfl)
      go_wp2
      go_ret
      refine ⟨_, rfl, ?_, rfl⟩
      rw [HF.out]
      rfl

set_option maxRecDepth 10000 in
set_option maxHeartbeats 800000 in
theorem index0_any (A : Option Addr) (n c : Nat) (xs : List Int) (w : World) (hn : xs.length = n) (hm : n ≤ 9223372036854775807) (hr : Nums .i64 w w.heap.size A xs) :
    Calls Try.prog 72 #[.slice A n c, .int .i64 0] w (Finds (fun x => !(0 == x)) xs w) := by
  have HR := Lib.hid hr
  have HN := Lib.hid hn
  clear hr hn
  go_enter Try.func72, Try.ntmps72
  go_wp2
  go_loopg [8] n (fun g s8 wr => ∃ k : Nat, k ≤ n ∧ g = n - k ∧ s8 = .int .i64 k ∧ Hid ((xs.drop k).all (fun x => !(0 == x)) = xs.all (fun x => !(0 == x))) ∧ w = wr)
  case atStart => exact ⟨0, Nat.zero_le _, rfl, rfl, Lib.hid rfl, rfl⟩
  case round =>
    obtain ⟨k, hk, rfl, rfl, HA, rfl⟩ := hrel
    by_cases hlt : k < n
    · have hkl : k < xs.length := by rw [HN.out]; exact hlt
      obtain ⟨b, off, rfl, hb, hcl⟩ := HR.out (by omega)
      have hc := hcl k hkl
      have HT := Lib.hid (fun h => all_drop (p := fun x => !(0 == x)) hkl h)
      have HF := Lib.hid (fun h => all_fails (p := fun x => !(0 == x)) hkl h)
      clear hcl hkl
      generalize xs.getD k 0 = x at hc HT HF
      cases hx : ((0 : Int) == x) with
      | false =>
        have HT' := Lib.hid (HT.out (by simp only [hx]; rfl))
        clear HT HF
        go_wp2
        go_roundg (n - (k + 1))
        case rel => exact ⟨k + 1, by omega, rfl, by go_num, Lib.hid (HT'.out.symm.trans HA.out), rfl⟩
        case measure => omega
      | true =>
        have HF' := Lib.hid (HF.out (by simp only [hx]; rfl))
        clear HT HF
        go_wp2
        go_ret
        refine ⟨_, rfl, ?_, rfl⟩
        rw [← HA.out, HF'.out]
        simp
    · obtain rfl : n = k := by omega
      have HF := Lib.hid (show xs.all (fun x => !(0 == x)) = true by rw [← HA.out, List.drop_of_length_le (by rw [HN.out]; exact Nat.le_refl _)]; rfl)
      go_wp2
      go_ret
      refine ⟨_, rfl, ?_, rfl⟩
      rw [HF.out]
      rfl

theorem containsf_any (A : Option Addr) (n c : Nat) (xs : List Int) (w : World) (hn : xs.length = n) (hm : n ≤ 9223372036854775807) (hr : Nums .i64 w w.heap.size A xs) :
    Calls Try.prog 52 #[.slice A n c, .func (.func 51) #[] #[]] w (Gives (.bool (!(xs.all okI))) w) := by
  have HI := Lib.hid (indexf_any A n c xs w hn hm hr)
  clear hr hn
  go_enter Try.func52, Try.ntmps52
  go_wp2_with fail
  refine (HI.out).mono ?_
  rintro e w2 ⟨j, rfl, hj, rfl⟩
  have HJ := Lib.hid hj
  clear hj HI
  go_wp2
  go_ret
  exact ⟨by rw [← HJ.out]; rfl, rfl⟩
theorem contains0_any (A : Option Addr) (n c : Nat) (xs : List Int) (w : World) (hn : xs.length = n) (hm : n ≤ 9223372036854775807) (hr : Nums .i64 w w.heap.size A xs) :
    Calls Try.prog 53 #[.slice A n c, .int .i64 0] w (Gives (.bool (!(xs.all fun x => !(0 == x)))) w) := by
  have HI := Lib.hid (index0_any A n c xs w hn hm hr)
  clear hr hn
  go_enter Try.func53, Try.ntmps53
  go_wp2_with fail
  refine (HI.out).mono ?_
  rintro e w2 ⟨j, rfl, hj, rfl⟩
  have HJ := Lib.hid hj
  clear hj HI
  go_wp2
  go_ret
  exact ⟨by rw [← HJ.out]; rfl, rfl⟩
end Go.Proofs.Ytcljpcbgokgcdaa
end

section
/-
  What shape.Count comes to, called with any numbers: the count, and whether the shape is right.
-/
namespace Go.Proofs.Ytcljpcbgokgcdaa
open Go.RowKit Go.Lib
set_option linter.unusedSimpArgs false
set_option linter.unusedVariables false

theorem right_long {xs : List Int} (h : 16 < xs.length) : rightB xs = false := by
  have : ¬ xs.length ≤ 16 := by omega
  simp [rightB, this]
theorem right_out {xs : List Int} (h : xs.all okI = false) : rightB xs = false := by simp [rightB, h]
theorem cnt_no {xs : List Int} (h : rightB xs = false) : cnt xs = 0 := by simp [cnt, h]
theorem cnt_yes {xs : List Int} (h : rightB xs = true) : cnt xs = prodN (toN xs) := by simp [cnt, h]
theorem zero_of_any {xs : List Int} (h : (xs.all fun x => !(0 == x)) = false) : prodN (toN xs) = 0 := by
  refine prod_zero ?_
  rw [List.all_eq_false] at h
  obtain ⟨x, hx, h0⟩ := h
  have h1 : ((0 : Int) == x) = true := by simpa using h0
  have : x = 0 := (beq_iff_eq.1 h1).symm
  subst this
  exact List.mem_map.2 ⟨0, hx, rfl⟩
theorem right_zero {xs : List Int} (h16 : xs.length ≤ 16) (ha : xs.all okI = true) (h : prodN (toN xs) = 0) : rightB xs = true ∧ cnt xs = 0 := by
  have : rightB xs = true := right_iff.2 ⟨h16, ha, by omega⟩
  exact ⟨this, by rw [cnt_yes this, h]⟩
/-- a number of a shape whose numbers are all right, none of them 0 -/
theorem at_ok {xs : List Int} {k : Nat} (h : k < xs.length) (ha : xs.all okI = true) : ∃ m : Nat, xs.getD k 0 = (m : Nat) ∧ m ≤ 1048576 := by
  have e : xs.getD k 0 = xs[k] := by simp [List.getD, h]
  have := List.all_eq_true.1 ha xs[k] (List.getElem_mem h)
  simp only [okI, Bool.and_eq_true, decide_eq_true_eq] at this
  exact ⟨xs[k].toNat, by rw [e]; omega, by omega⟩
theorem prod_drop {xs : List Int} {k m : Nat} (h : k < xs.length) (e : xs.getD k 0 = (m : Nat)) : prodN (toN (xs.drop k)) = m * prodN (toN (xs.drop (k + 1))) := by
  rw [drop_at 0 h, e]
  simp [toN, prodN]
theorem pos_drop {xs : List Int} (h : prodN (toN xs) ≠ 0) (k : Nat) : 0 < prodN (toN (xs.drop k)) := by
  refine prod_pos fun x hx => pos_of_prod h x ?_
  simp only [toN, List.mem_map] at hx ⊢
  obtain ⟨y, hy, rfl⟩ := hx
  exact ⟨y, List.mem_of_mem_drop hy, rfl⟩
theorem pos_of_all {xs : List Int} (ha : xs.all okI = true) (h : (xs.all fun x => !(0 == x)) = true) : prodN (toN xs) ≠ 0 := by
  have : 0 < prodN (toN xs) := prod_pos fun x hx => by
    obtain ⟨y, hy, rfl⟩ := List.mem_map.1 hx
    have h1 := List.all_eq_true.1 ha y hy
    have h2 := List.all_eq_true.1 h y hy
    simp only [okI, Bool.and_eq_true, decide_eq_true_eq] at h1
    simp at h2
    omega
  omega

set_option maxRecDepth 10000 in
set_option maxHeartbeats 1600000 in
theorem count_any (A : Option Addr) (n c : Nat) (xs : List Int) (w : World) (hn : xs.length = n) (hm : n ≤ 9223372036854775807) (hr : Nums .i64 w w.heap.size A xs) :
    Calls Try.prog 31 #[.slice A n c] w (Gives (.tuple #[.int .i64 (cnt xs : Nat), .bool (rightB xs)]) w) := by
  have HF := Lib.hid (containsf_any A n c xs w hn hm hr)
  have HZ := Lib.hid (contains0_any A n c xs w hn hm hr)
  have HR := Lib.hid hr
  have HN := Lib.hid hn
  clear hr hn
  by_cases h16 : 16 < n
  · have h16i : (16 : Int) < ((n : Nat) : Int) := by omega
    have HB := Lib.hid (right_long (xs := xs) (by rw [HN.out]; exact h16))
    have HC := Lib.hid (cnt_no HB.out)
    rw [HB.out, HC.out]
    go_enter Try.func31, Try.ntmps31
    go_wp2
    go_ret2
    exact ⟨rfl, rfl⟩
  have h16i : ¬ (16 : Int) < ((n : Nat) : Int) := by omega
  cases hall : xs.all okI with
  | false =>
    have HB := Lib.hid (right_out hall)
    have HC := Lib.hid (cnt_no HB.out)
    rw [HB.out, HC.out]
    rw [hall] at HF
    clear hall
    go_enter Try.func31, Try.ntmps31
    go_wp2_with fail
    refine (HF.out).mono ?_
    rintro e w2 ⟨rfl, rfl⟩
    go_wp2
    go_ret2
    exact ⟨rfl, rfl⟩
  | true =>
    rw [hall] at HF
    have HAL := Lib.hid hall
    clear hall
    cases hz : xs.all fun x => !(0 == x) with
    | false =>
      obtain ⟨hB, hC⟩ := right_zero (xs := xs) (by rw [HN.out]; omega) HAL.out (zero_of_any hz)
      rw [hB, hC]
      rw [hz] at HZ
      clear hz hB hC
      go_enter Try.func31, Try.ntmps31
      go_wp2_with fail
      refine (HF.out).mono ?_
      rintro e w2 ⟨rfl, rfl⟩
      go_wp2_with fail
      refine (HZ.out).mono ?_
      rintro e w3 ⟨rfl, rfl⟩
      go_wp2
      go_ret2
      exact ⟨rfl, rfl⟩
    | true =>
      rw [hz] at HZ
      have HP := Lib.hid (pos_of_all HAL.out hz)
      clear hz
      go_enter Try.func31, Try.ntmps31
      go_wp2_with fail
      refine (HF.out).mono ?_
      rintro e w2 ⟨rfl, rfl⟩
      go_wp2_with fail
      refine (HZ.out).mono ?_
      rintro e w3 ⟨rfl, rfl⟩
      clear HF HZ
      go_wp2
      go_loopg [5, 20] n (fun g s5 s20 wr => ∃ k q : Nat, k ≤ n ∧ g = n - k ∧ s5 = .int .i64 q ∧ s20 = .int .i64 k ∧ 1 ≤ q ∧ q ≤ 1048576 ∧ Hid (prodN (toN xs) = q * prodN (toN (xs.drop k))) ∧ w3 = wr)
      case atStart => exact ⟨0, 1, Nat.zero_le _, rfl, rfl, rfl, Nat.le_refl _, by omega, Lib.hid (by simp), rfl⟩
      case round =>
        obtain ⟨k, q, hk, rfl, rfl, rfl, hq1, hq, HQ, rfl⟩ := hrel
        by_cases hlt : k < n
        · have hkl : k < xs.length := by rw [HN.out]; exact hlt
          obtain ⟨b, off, rfl, hb, hcl⟩ := HR.out (by omega)
          have hc := hcl k hkl
          obtain ⟨m, hm', hmb⟩ := at_ok hkl HAL.out
          have HD := Lib.hid (prod_drop hkl hm')
          rw [hm'] at hc
          clear hcl hkl hm'
          have hqm : q * m ≤ 1048576 * 1048576 := Nat.mul_le_mul hq hmb
          have hpos := pos_drop HP.out (k + 1)
          have HPM : Hid (prodN (toN xs) = q * m * prodN (toN (xs.drop (k + 1)))) := Lib.hid (by rw [HQ.out, HD.out, Nat.mul_assoc])
          have HPN : Hid (0 < q * m) := Lib.hid (by
            rcases Nat.eq_zero_or_pos (q * m) with h0 | h0
            · exact absurd (by rw [HPM.out, h0, Nat.zero_mul]) HP.out
            · exact h0)
          have HLE : Hid (q * m ≤ prodN (toN xs)) := Lib.hid (by rw [HPM.out]; exact Nat.le_mul_of_pos_right _ hpos)
          have hmul : ((q : Nat) : Int) * ((m : Nat) : Int) = ((q * m : Nat) : Int) := by simp
          obtain ⟨p, hp⟩ : ∃ p, q * m = p := ⟨_, rfl⟩
          rw [hp] at hmul hqm HPM HPN HLE
          have hwr : IntKind.i64.wrap (((q : Nat) : Int) * ((m : Nat) : Int)) = ((p : Nat) : Int) := by rw [hmul, IntKind.wrap_i64]; omega
          clear hpos HD hp hmul
          by_cases hgt : 1048576 < p
          · have hgti : (1048576 : Int) < ((p : Nat) : Int) := by omega
            have HB : Hid (rightB xs = false) := Lib.hid (by
              cases hb : rightB xs with
              | false => rfl
              | true => have := (right_iff.1 hb).2.2; have := HLE.out; omega)
            have HC := Lib.hid (cnt_no HB.out)
            go_wp2
            go_ret2
            exact ⟨by rw [HB.out, HC.out]; rfl, rfl⟩
          · have hgti : ¬ (1048576 : Int) < ((p : Nat) : Int) := by omega
            go_wp2
            go_roundg (n - (k + 1))
            case rel => exact ⟨k + 1, p, by omega, rfl, rfl, by go_num, HPN.out, by omega, HPM, rfl⟩
            case measure => omega
        · obtain rfl : n = k := by omega
          have HE : Hid (prodN (toN xs) = q) := Lib.hid (by rw [HQ.out, List.drop_of_length_le (by rw [HN.out]; exact Nat.le_refl _)]; simp [toN, prodN])
          have HB : Hid (rightB xs = true) := Lib.hid (right_iff.2 ⟨by rw [HN.out]; omega, HAL.out, by rw [HE.out]; exact hq⟩)
          have HC : Hid (cnt xs = q) := Lib.hid ((cnt_yes HB.out).trans HE.out)
          go_wp2
          go_ret2
          exact ⟨by rw [HB.out, HC.out]; rfl, rfl⟩
end Go.Proofs.Ytcljpcbgokgcdaa
end

section
/-
  Exact numbers, plainly: the right form, and which are right. Nothing is claimed here by itself.
-/
namespace Go.Proofs.Ytcljpcbgokgcdaa

abbrev Dc := Int × Int

/-- an int of 64 bits -/
def In (n : Int) : Prop := -9223372036854775808 ≤ n ∧ n ≤ 9223372036854775807
theorem In.lo {n : Int} (h : In n) : -9223372036854775808 ≤ n := h.1
theorem In.hi {n : Int} (h : In n) : n ≤ 9223372036854775807 := h.2

/-- how many noughts stand behind -/
def zs : Nat → Int → Nat
  | 0, _ => 0
  | f + 1, m => if m % 10 = 0 then zs f (m / 10) + 1 else 0

def okExp (e : Int) : Bool := decide (-32768 ≤ e ∧ e ≤ 32767)

def norm (m e : Int) : Dc × Bool :=
  if m = 0 then ((0, 0), true)
  else if okExp (e + (zs 20 m : Nat)) then ((m / 10 ^ zs 20 m, e + (zs 20 m : Nat)), true) else ((0, 0), false)

def rightD (m e : Int) : Bool := decide (norm m e = ((m, e), true))

def RightD (m e : Int) : Prop := (m = 0 ∧ e = 0) ∨ (m % 10 ≠ 0 ∧ -32768 ≤ e ∧ e ≤ 32767)

theorem pow_pos10 (k : Nat) : 0 < (10 : Int) ^ k := by
  induction k with
  | zero => decide
  | succ k ih => rw [Int.pow_succ]; omega

theorem zs_of : ∀ (j f : Nat) (q : Int), q % 10 ≠ 0 → j < f → zs f (q * 10 ^ j) = j
  | 0, 0, _, _, h => absurd h (by omega)
  | 0, f + 1, q, hq, _ => by rw [zs]; simp [hq]
  | j + 1, 0, _, _, h => absurd h (by omega)
  | j + 1, f + 1, q, hq, h => by
    have e : q * 10 ^ (j + 1) = (q * 10 ^ j) * 10 := by rw [Int.pow_succ, Int.mul_assoc]
    rw [zs, e, if_pos (by omega), show q * 10 ^ j * 10 / 10 = q * 10 ^ j by omega, zs_of j f q hq (by omega)]

theorem mul_ne {q : Int} (hq : q % 10 ≠ 0) (j : Nat) : q * 10 ^ j ≠ 0 := by
  have := pow_pos10 j
  intro h
  rcases Int.mul_eq_zero.1 h with h | h <;> omega

theorem norm_of {m e q : Int} {j : Nat} (hm : m = q * 10 ^ j) (hq : q % 10 ≠ 0) (hj : j ≤ 19) :
    norm m e = if okExp (e + (j : Nat)) then ((q, e + (j : Nat)), true) else ((0, 0), false) := by
  have h0 : m ≠ 0 := by rw [hm]; exact mul_ne hq j
  rw [norm, if_neg h0, hm, zs_of j 20 q hq (by omega), Int.mul_ediv_cancel _ (by have := pow_pos10 j; omega)]

theorem norm_zero (e : Int) : norm 0 e = ((0, 0), true) := by rw [norm, if_pos rfl]

/-- each number that is not 0 is one that is no multiple of ten, and noughts -/
theorem parts_of : ∀ (f : Nat) (m : Int), m ≠ 0 → m.natAbs < 10 ^ f → ∃ q j, m = q * 10 ^ j ∧ q % 10 ≠ 0 ∧ j < f
  | 0, m, h0, h => by simp at h; omega
  | f + 1, m, h0, h => by
    by_cases h10 : m % 10 = 0
    · have hlt : (m / 10).natAbs < 10 ^ f := by rw [Nat.pow_succ] at h; omega
      obtain ⟨q, j, hm, hq, hj⟩ := parts_of f (m / 10) (by omega) hlt
      refine ⟨q, j + 1, ?_, hq, by omega⟩
      rw [Int.pow_succ, ← Int.mul_assoc, ← hm]
      omega
    · exact ⟨m, 0, by simp, h10, by omega⟩

theorem parts_in {m : Int} (h : In m) (h0 : m ≠ 0) : ∃ q j, m = q * 10 ^ j ∧ q % 10 ≠ 0 ∧ j ≤ 18 := by
  obtain ⟨q, j, hm, hq, hj⟩ := parts_of 19 m h0 (by have := h.1; have := h.2; have : (10 : Nat) ^ 19 = 10000000000000000000 := by decide
                                                    omega)
  exact ⟨q, j, hm, hq, by omega⟩

theorem q_in {m q : Int} {j : Nat} (h : In m) (hm : m = q * 10 ^ j) : In q := by
  have h1 := h.1
  have h2 := h.2
  have hp := pow_pos10 j
  rw [hm] at h1 h2
  have : q.natAbs ≤ (q * 10 ^ j).natAbs := by
    rw [Int.natAbs_mul]
    exact Nat.le_mul_of_pos_right _ (by omega)
  constructor
  · by_cases hq : 0 ≤ q
    · omega
    · have : q * 10 ^ j ≤ 0 := by
        have := Int.mul_le_mul_of_nonneg_right (show q ≤ 0 by omega) (show 0 ≤ (10 : Int) ^ j by omega)
        simpa using this
      omega
  · by_cases hq : q ≤ 0
    · omega
    · have : 0 ≤ q * 10 ^ j := Int.mul_nonneg (by omega) (by omega)
      omega

theorem j_le {m q : Int} {j : Nat} (h : In m) (hm : m = q * 10 ^ j) (hq : q ≠ 0) : j ≤ 18 := by
  have h1 := h.1
  have h2 := h.2
  rcases Nat.lt_or_ge 18 j with hj | hj
  · exfalso
    have e : (q * 10 ^ j).natAbs = q.natAbs * 10 ^ j := by rw [Int.natAbs_mul, Int.natAbs_pow]; rfl
    have hp : (10 : Nat) ^ 19 ≤ 10 ^ j := Nat.pow_le_pow_right (by decide) hj
    have : 10 ^ j ≤ q.natAbs * 10 ^ j := Nat.le_mul_of_pos_left _ (by omega)
    have e19 : (10 : Nat) ^ 19 = 10000000000000000000 := by decide
    rw [hm] at h1 h2
    omega
  · exact hj

theorem norm_in {m e : Int} (hm : In m) : In (norm m e).1.1 := by
  by_cases h0 : m = 0
  · subst h0; rw [norm_zero]; constructor <;> decide
  · obtain ⟨q, j, h, hq, hj⟩ := parts_in hm h0
    rw [norm_of h hq (by omega)]
    split
    · exact q_in hm h
    · constructor <;> decide

theorem norm_exp {m e : Int} (hm : In m) : -32768 ≤ (norm m e).1.2 ∧ (norm m e).1.2 ≤ 32767 := by
  by_cases h0 : m = 0
  · subst h0; rw [norm_zero]; decide
  · obtain ⟨q, j, h, hq, hj⟩ := parts_in hm h0
    rw [norm_of h hq (by omega)]
    split
    · rename_i ho
      simpa [okExp] using ho
    · decide

theorem norm_exp_in {m e : Int} (hm : In m) : In (norm m e).1.2 := by
  have := norm_exp (e := e) hm
  constructor <;> omega

theorem norm_false {m e : Int} (h : (norm m e).2 = false) : (norm m e).1 = (0, 0) := by
  unfold norm at h ⊢
  split
  · rfl
  · rename_i h0
    rw [if_neg h0] at h
    split
    · rename_i h1
      rw [if_pos h1] at h
      cases h
    · rfl

theorem norm_right {m e : Int} (hm : In m) (h : (norm m e).2 = true) : RightD (norm m e).1.1 (norm m e).1.2 := by
  by_cases h0 : m = 0
  · subst h0; rw [norm_zero]; exact .inl ⟨rfl, rfl⟩
  · obtain ⟨q, j, hd, hq, hj⟩ := parts_in hm h0
    rw [norm_of hd hq (by omega)] at h ⊢
    split
    · rename_i ho
      exact .inr ⟨hq, by simpa [okExp] using ho⟩
    · exact .inl ⟨rfl, rfl⟩

theorem norm_self {m e : Int} (h : RightD m e) : norm m e = ((m, e), true) := by
  rcases h with ⟨rfl, rfl⟩ | ⟨h10, h1, h2⟩
  · exact norm_zero 0
  · rw [norm_of (q := m) (j := 0) (by simp) h10 (by omega)]
    simp [okExp, h1, h2]

theorem rightD_iff {m e : Int} (hm : In m) : rightD m e = true ↔ RightD m e := by
  unfold rightD
  rw [decide_eq_true_iff]
  constructor
  · intro h
    have := norm_right (e := e) hm (by rw [h])
    rw [h] at this
    exact this
  · exact norm_self

theorem rightD_of {m e : Int} (h : RightD m e) : rightD m e = true := by unfold rightD; rw [decide_eq_true_iff]; exact norm_self h
theorem rightD_not {m e : Int} (hm : In m) (h : ¬ RightD m e) : rightD m e = false := by
  cases hr : rightD m e with
  | false => rfl
  | true => exact absurd ((rightD_iff hm).1 hr) h

instance (m e : Int) : Decidable (RightD m e) := by unfold RightD; exact inferInstance

/-- a nought behind the digits is one more in the exponent -/
theorem norm_ten {m e : Int} (hm : In m) (h10 : In (10 * m)) : norm (10 * m) (e - 1) = norm m e := by
  by_cases h0 : m = 0
  · subst h0; rw [show (10 : Int) * 0 = 0 by rfl, norm_zero, norm_zero]
  · obtain ⟨q, j, h, hq, hj⟩ := parts_in hm h0
    have e1 : 10 * m = q * 10 ^ (j + 1) := by rw [Int.pow_succ, ← Int.mul_assoc, ← h]; omega
    have hj1 := j_le h10 e1 (by omega)
    rw [norm_of e1 hq (by omega), norm_of h hq (by omega), show e - 1 + ((j + 1 : Nat) : Int) = e + (j : Nat) by omega]

/-- the right form of a whole number -/
theorem norm_of_int {n : Int} (hn : In n) : (norm n 0).2 = true := by
  by_cases h0 : n = 0
  · subst h0; rfl
  · obtain ⟨q, j, h, hq, hj⟩ := parts_in hn h0
    rw [norm_of h hq (by omega)]
    have : okExp (0 + (j : Nat)) = true := by simp [okExp]; omega
    rw [if_pos this]

end Go.Proofs.Ytcljpcbgokgcdaa
end

section
/-
  Arrays as lists of nodes: the array that stands first, how great and how deep it is. Nothing is claimed here by itself.
-/
namespace Go.Proofs.Ytcljpcbgokgcdaa
set_option linter.unusedVariables false
set_option linter.unusedSimpArgs false

/-- a node -/
structure Nd where
  kind : Int
  shp : List Int
  ints : List Int
  decs : List (Int × Int)
instance : Inhabited Nd := ⟨⟨0, [], [], []⟩⟩
instance : DecidableEq Nd := fun a b =>
  if h : a.kind = b.kind ∧ a.shp = b.shp ∧ a.ints = b.ints ∧ a.decs = b.decs then isTrue (by cases a; cases b; simp_all) else isFalse (fun e => h (by subst e; simp))
def nd0 : Nd := ⟨0, [], [], []⟩

def bitB (x : Int) : Bool := x == 0 || x == 1
def signB (x : Int) : Bool := (decide (0 ≤ x) && decide (x ≤ 1114111)) && (decide (x < 55296) || decide (57343 < x))
def decB (x : Int × Int) : Bool := rightD x.1 x.2
/-- a node has what its kind asks for so many items -/
def fillB (n : Nd) (c : Nat) : Bool :=
  if n.kind = 1 then (n.ints.length == c && n.decs.length == 0) && n.ints.all bitB
  else if n.kind = 2 then n.ints.length == c && n.decs.length == 0
  else if n.kind = 3 then (n.ints.length == c && n.decs.length == 0) && n.ints.all signB
  else if n.kind = 4 then (n.ints.length == 0 && n.decs.length == c) && n.decs.all decB
  else if n.kind = 5 then n.ints.length == 0 && n.decs.length == 0
  else false
def okB (n : Nd) : Bool := rightB n.shp && fillB n (cnt n.shp)
def itm (n : Nd) : Nat := if okB n = true then cnt n.shp else 0

/-- nodes, items, depth, rank -/
structure St where
  n : Nat
  i : Nat
  d : Nat
  r : Nat
def st0 : St := ⟨0, 0, 0, 0⟩
def St.plus (s t : St) : St := ⟨s.n + t.n, s.i + t.i, max s.d t.d, max s.r t.r⟩
theorem plus_zero (s : St) : s.plus st0 = s := by cases s; simp [St.plus, st0]
theorem zero_plus (s : St) : st0.plus s = s := by cases s; simp [St.plus, st0]
theorem plus_assoc (a b c : St) : (a.plus b).plus c = a.plus (b.plus c) := by
  simp only [St.plus, St.mk.injEq]
  refine ⟨?_, ?_, ?_, ?_⟩ <;> omega

def kc (n : Nd) : Nat := if n.kind = 5 then cnt n.shp else 0
def top (n : Nd) (t : St) : St := ⟨t.n + 1, t.i + cnt n.shp, t.d + 1, max t.r n.shp.length⟩
/-- so many arrays, one behind the other -/
def parK (f : List Nd → Option St) : Nat → List Nd → Option St
  | 0, _ => some st0
  | j + 1, l => (parK f j l).bind fun t => (f (l.drop t.n)).map t.plus
/-- the array that stands first, of depth d at most -/
def par : Nat → List Nd → Option St
  | 0, _ => none
  | _ + 1, [] => none
  | d + 1, n :: l => if okB n = true then (parK (par d) (kc n) l).map (top n) else none

theorem par_cons (d : Nat) (n : Nd) (l : List Nd) : par (d + 1) (n :: l) = if okB n = true then (parK (par d) (kc n) l).map (top n) else none := rfl
theorem par_nil (d : Nat) : par d [] = none := by cases d <;> rfl
theorem parK_zero (f : List Nd → Option St) (l : List Nd) : parK f 0 l = some st0 := rfl
theorem parK_succ (f : List Nd → Option St) (j : Nat) (l : List Nd) : parK f (j + 1) l = (parK f j l).bind fun t => (f (l.drop t.n)).map t.plus := rfl
theorem parK_some {f : List Nd → Option St} {j : Nat} {l : List Nd} {t : St} (h : parK f (j + 1) l = some t) : ∃ a b, parK f j l = some a ∧ f (l.drop a.n) = some b ∧ t = a.plus b := by
  rw [parK_succ] at h
  cases ha : parK f j l with
  | none => simp [ha] at h
  | some a =>
    simp only [ha, Option.bind_some, Option.map_eq_some_iff] at h
    obtain ⟨b, hb, rfl⟩ := h
    exact ⟨a, b, rfl, hb, rfl⟩
theorem parK_mk {f : List Nd → Option St} {j : Nat} {l : List Nd} {a b : St} (ha : parK f j l = some a) (hb : f (l.drop a.n) = some b) : parK f (j + 1) l = some (a.plus b) := by
  rw [parK_succ, ha, Option.bind_some, hb]; rfl
theorem parK_none {f : List Nd → Option St} {j c : Nat} {l : List Nd} (h : parK f j l = none) (hj : j ≤ c) : parK f c l = none := by
  induction c with
  | zero => obtain rfl : j = 0 := by omega
            exact h
  | succ c ih =>
    by_cases e : j = c + 1
    · subst e; exact h
    · rw [parK_succ, ih (by omega)]; rfl
theorem parK_to {f : List Nd → Option St} : ∀ {c : Nat} {l : List Nd} {t : St}, parK f c l = some t → ∀ j, j ≤ c → ∃ a, parK f j l = some a ∧ a.n ≤ t.n ∧ a.i ≤ t.i ∧ a.d ≤ t.d ∧ a.r ≤ t.r
  | 0, l, t, h, j, hj => by
    obtain rfl : j = 0 := by omega
    exact ⟨t, h, Nat.le_refl _, Nat.le_refl _, Nat.le_refl _, Nat.le_refl _⟩
  | c + 1, l, t, h, j, hj => by
    by_cases e : j = c + 1
    · subst e; exact ⟨t, h, Nat.le_refl _, Nat.le_refl _, Nat.le_refl _, Nat.le_refl _⟩
    · obtain ⟨a, b, ha, hb, rfl⟩ := parK_some h
      obtain ⟨a', ha', h1, h2, h3, h4⟩ := parK_to ha j (by omega)
      exact ⟨a', ha', by simp only [St.plus]; omega, by simp only [St.plus]; omega, by simp only [St.plus]; omega, by simp only [St.plus]; omega⟩
/-- too great at some time: too great, or none, at last -/
theorem parK_great {f : List Nd → Option St} {c j : Nat} {l : List Nd} {t : St} {m : Nat} (h : parK f j l = some t) (hm : m < t.i) (hj : j ≤ c) : ∀ u, parK f c l = some u → m < u.i := fun u hu => by
  obtain ⟨a, ha, _, hi, _⟩ := parK_to hu j hj
  rw [h] at ha
  cases ha
  omega

theorem parK_len {f : List Nd → Option St} (hf : ∀ l s, f l = some s → s.n ≤ l.length) : ∀ {c : Nat} {l : List Nd} {t : St}, parK f c l = some t → t.n ≤ l.length
  | 0, l, t, h => by rw [parK_zero] at h; cases h; exact Nat.zero_le _
  | c + 1, l, t, h => by
    obtain ⟨a, b, ha, hb, rfl⟩ := parK_some h
    have h1 := parK_len hf ha
    have h2 := hf _ _ hb
    rw [List.length_drop] at h2
    simp only [St.plus]
    omega
theorem parK_deep {f : List Nd → Option St} {d : Nat} (hf : ∀ l s, f l = some s → s.d ≤ d) : ∀ {c : Nat} {l : List Nd} {t : St}, parK f c l = some t → t.d ≤ d
  | 0, l, t, h => by rw [parK_zero] at h; cases h; exact Nat.zero_le _
  | c + 1, l, t, h => by
    obtain ⟨a, b, ha, hb, rfl⟩ := parK_some h
    have h1 := parK_deep hf ha
    have h2 := hf _ _ hb
    simp only [St.plus]
    omega
theorem par_parts {d : Nat} {l : List Nd} {s : St} (h : par d l = some s) : ∃ e n l' t, d = e + 1 ∧ l = n :: l' ∧ okB n = true ∧ parK (par e) (kc n) l' = some t ∧ s = top n t := by
  cases d with
  | zero => cases h
  | succ e =>
    cases l with
    | nil => cases h
    | cons n l' =>
      rw [par_cons] at h
      split at h
      · rename_i hn
        obtain ⟨t, ht, rfl⟩ := Option.map_eq_some_iff.1 h
        exact ⟨e, n, l', t, rfl, rfl, hn, ht, rfl⟩
      · cases h
theorem par_mk {e : Nat} {n : Nd} {l : List Nd} {t : St} (hn : okB n = true) (ht : parK (par e) (kc n) l = some t) : par (e + 1) (n :: l) = some (top n t) := by
  rw [par_cons, if_pos hn, ht]; rfl
theorem par_len : ∀ {d : Nat} {l : List Nd} {s : St}, par d l = some s → 1 ≤ s.n ∧ s.n ≤ l.length ∧ 1 ≤ s.d ∧ s.d ≤ d
  | 0, l, s, h => by cases h
  | d + 1, l, s, h => by
    obtain ⟨e, n, l', t, he, rfl, hn, ht, rfl⟩ := par_parts h
    obtain rfl : d = e := by omega
    have h1 := parK_len (fun l s h => (par_len h).2.1) ht
    have h2 := parK_deep (fun l s h => (par_len h).2.2.2) ht
    simp only [top, List.length_cons]
    omega

/-- what stands behind does not matter -/
theorem take_part {l r : List Nd} {a b : Nat} (h : r.take (a + b) = l.take (a + b)) : r.take a = l.take a ∧ (r.drop a).take b = (l.drop a).take b := by
  constructor
  · have := congrArg (List.take a) h
    simpa [List.take_take] using this
  · have := congrArg (List.drop a) h
    simpa [List.drop_take] using this
theorem parK_local {f : List Nd → Option St} (hf : ∀ l s, f l = some s → ∀ r : List Nd, r.take s.n = l.take s.n → f r = some s) :
    ∀ {c : Nat} {l : List Nd} {t : St}, parK f c l = some t → ∀ r : List Nd, r.take t.n = l.take t.n → parK f c r = some t
  | 0, l, t, h, r, _ => by rw [parK_zero] at h ⊢; exact h
  | c + 1, l, t, h, r, hr => by
    obtain ⟨a, b, ha, hb, rfl⟩ := parK_some h
    obtain ⟨h1, h2⟩ := take_part (a := a.n) (b := b.n) hr
    exact parK_mk (parK_local hf ha r h1) (hf _ _ hb _ h2)
theorem par_local : ∀ {d : Nat} {l : List Nd} {s : St}, par d l = some s → ∀ r : List Nd, r.take s.n = l.take s.n → par d r = some s
  | 0, l, s, h, _, _ => by cases h
  | d + 1, l, s, h, r, hr => by
    obtain ⟨e, n, l', t, he, rfl, hn, ht, rfl⟩ := par_parts h
    obtain rfl : d = e := by omega
    cases r with
    | nil => simp [top] at hr
    | cons n' r' =>
      simp only [top, List.take_succ_cons, List.cons.injEq] at hr
      obtain ⟨rfl, hr⟩ := hr
      exact par_mk hn (parK_local (fun l s h => par_local h) ht r' hr)
theorem par_app {d : Nat} {l : List Nd} {s : St} (h : par d l = some s) (r : List Nd) : par d (l ++ r) = some s :=
  par_local h _ (by rw [List.take_append_of_le_length (par_len h).2.1])
theorem par_take {d : Nat} {l : List Nd} {s : St} (h : par d l = some s) {k : Nat} (hk : s.n ≤ k) : par d (l.take k) = some s :=
  par_local h _ (by rw [List.take_take]; congr 1; omega)

/-- more depth than there is does not matter -/
theorem parK_depth {f g : List Nd → Option St} {e : Nat} (hf : ∀ l s, f l = some s → s.d ≤ e → g l = some s) :
    ∀ {c : Nat} {l : List Nd} {t : St}, parK f c l = some t → t.d ≤ e → parK g c l = some t
  | 0, l, t, h, _ => by rw [parK_zero] at h ⊢; exact h
  | c + 1, l, t, h, hd => by
    obtain ⟨a, b, ha, hb, rfl⟩ := parK_some h
    simp only [St.plus] at hd
    exact parK_mk (parK_depth hf ha (by omega)) (hf _ _ hb (by omega))
theorem par_depth : ∀ {d : Nat} {l : List Nd} {s : St}, par d l = some s → ∀ e, s.d ≤ e → par e l = some s
  | 0, l, s, h, _, _ => by cases h
  | d + 1, l, s, h, e, he => by
    obtain ⟨d', n, l', t, hd, rfl, hn, ht, rfl⟩ := par_parts h
    obtain rfl : d = d' := by omega
    simp only [top] at he
    cases e with
    | zero => omega
    | succ e => exact par_mk hn (parK_depth (fun l s h hs => par_depth h e hs) ht (by omega))

/-- from the front -/
theorem parK_cons {f : List Nd → Option St} : ∀ {c : Nat} {l : List Nd} {t : St}, parK f (c + 1) l = some t → ∃ a b, f l = some a ∧ parK f c (l.drop a.n) = some b ∧ t = a.plus b
  | 0, l, t, h => by
    obtain ⟨a, b, ha, hb, rfl⟩ := parK_some h
    rw [parK_zero] at ha
    cases ha
    exact ⟨b, st0, by simpa [st0] using hb, rfl, by rw [zero_plus, plus_zero]⟩
  | c + 1, l, t, h => by
    obtain ⟨a, b, ha, hb, rfl⟩ := parK_some h
    obtain ⟨x, y, hx, hy, rfl⟩ := parK_cons ha
    refine ⟨x, y.plus b, hx, parK_mk hy ?_, plus_assoc _ _ _⟩
    rw [List.drop_drop]
    exact hb
theorem parK_cons_mk {f : List Nd → Option St} : ∀ {c : Nat} {l : List Nd} {a b : St}, f l = some a → parK f c (l.drop a.n) = some b → parK f (c + 1) l = some (a.plus b)
  | 0, l, a, b, ha, hb => by
    rw [parK_zero] at hb
    cases hb
    rw [plus_zero]
    have := parK_mk (f := f) (j := 0) (l := l) (a := st0) (b := a) rfl (by simpa [st0] using ha)
    rwa [zero_plus] at this
  | c + 1, l, a, b, ha, hb => by
    obtain ⟨x, y, hx, hy, rfl⟩ := parK_some hb
    rw [← plus_assoc]
    refine parK_mk (parK_cons_mk ha hx) ?_
    rw [show (a.plus x).n = a.n + x.n from rfl, ← List.drop_drop]
    exact hy

/-- the array that stands first, if it is right -/
def fstD (l : List Nd) : Option St := (par 16 l).bind fun s => if s.i ≤ 1048576 then some s else none
/-- the sizes, if the whole is a right array -/
def whlD (l : List Nd) : Option St := (fstD l).bind fun s => if s.n = l.length then some s else none
def fs (l : List Nd) : St := (fstD l).getD st0
def ws (l : List Nd) : St := (whlD l).getD st0
def rightA (l : List Nd) : Bool := (whlD l).isSome
def takeA (l : List Nd) : Nat := (fs l).n

theorem fst_some {l : List Nd} {s : St} (h : fstD l = some s) : par 16 l = some s ∧ s.i ≤ 1048576 := by
  unfold fstD at h
  cases hp : par 16 l with
  | none => simp [hp] at h
  | some t =>
    simp only [hp, Option.bind_some] at h
    split at h
    · cases h; exact ⟨rfl, by assumption⟩
    · cases h
theorem fst_mk {l : List Nd} {s : St} (h : par 16 l = some s) (hi : s.i ≤ 1048576) : fstD l = some s := by
  unfold fstD; rw [h, Option.bind_some, if_pos hi]
theorem whl_some {l : List Nd} {s : St} (h : whlD l = some s) : par 16 l = some s ∧ s.i ≤ 1048576 ∧ s.n = l.length := by
  unfold whlD at h
  cases hp : fstD l with
  | none => simp [hp] at h
  | some t =>
    simp only [hp, Option.bind_some] at h
    split at h
    · cases h; exact ⟨(fst_some hp).1, (fst_some hp).2, by assumption⟩
    · cases h
theorem whl_mk {l : List Nd} {s : St} (h : par 16 l = some s) (hi : s.i ≤ 1048576) (hn : s.n = l.length) : whlD l = some s := by
  unfold whlD; rw [fst_mk h hi, Option.bind_some, if_pos hn]
theorem right_some {l : List Nd} (h : rightA l = true) : ∃ s, whlD l = some s := Option.isSome_iff_exists.1 h
theorem right_no {l : List Nd} (h : rightA l = false) : whlD l = none := by
  unfold rightA at h
  cases hw : whlD l with
  | none => rfl
  | some s => simp [hw] at h
theorem ws_some {l : List Nd} {s : St} (h : whlD l = some s) : ws l = s := by simp [ws, h]
theorem ws_none {l : List Nd} (h : whlD l = none) : ws l = st0 := by simp [ws, h]
theorem fs_some {l : List Nd} {s : St} (h : fstD l = some s) : fs l = s := by simp [fs, h]
theorem fs_none {l : List Nd} (h : fstD l = none) : fs l = st0 := by simp [fs, h]
end Go.Proofs.Ytcljpcbgokgcdaa
end
