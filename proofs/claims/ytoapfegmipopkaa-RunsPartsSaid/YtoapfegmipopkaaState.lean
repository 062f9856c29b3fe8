/-
  A cursor in memory: what it has, and what stays when it turns. Nothing is claimed here by itself.
-/
import Derived.Test.YtoapfegmipopkaaEnds
namespace Go.Proofs.Ytoapfegmipopkaa
open Go.RowKit

/-- nothing that was there has turned, but for the blocks of S -/
structure Kept (S : Nat → Prop) (w w' : World) : Prop where
  os : w'.os = w.os
  tape : w'.tape = w.tape
  output : w'.output = w.output
  size : w.heap.size ≤ w'.heap.size
  block : ∀ k, k < w.heap.size → ¬ S k → w'.heap[k]? = w.heap[k]?

theorem Kept.refl (S : Nat → Prop) (w : World) : Kept S w w := ⟨rfl, rfl, rfl, Nat.le_refl _, fun _ _ _ => rfl⟩
theorem Kept.trans {S : Nat → Prop} {a b c : World} (h : Kept S a b) (k : Kept S b c) : Kept S a c :=
  ⟨k.os.trans h.os, k.tape.trans h.tape, k.output.trans h.output, Nat.le_trans h.size k.size, fun i hi hs => (k.block i (Nat.lt_of_lt_of_le hi h.size) hs).trans (h.block i hi hs)⟩
theorem Kept.mono {S T : Nat → Prop} {a b : World} (h : Kept S a b) (hs : ∀ k, S k → T k) : Kept T a b := ⟨h.os, h.tape, h.output, h.size, fun i hi hn => h.block i hi (fun x => hn (hs i x))⟩
theorem Kept.of_grow {S : Nat → Prop} {a b : World} (h : Grow a b) : Kept S a b := ⟨h.os, h.tape, h.output, h.size, fun i hi _ => h.block i hi⟩
theorem Kept.of_below {S : Nat → Prop} {B : Nat} {a b : World} (h : Below B a b) (hB : ∀ k, k < a.heap.size → ¬ S k → k < B) : Kept S a b := ⟨h.os, h.tape, h.output, h.size, fun i hi hn => h.block i (hB i hi hn)⟩
theorem Kept.drew {S : Nat → Prop} {a b : World} (h : Kept S a b) : Kept S a b.drew := ⟨h.os, h.tape, h.output, h.size, h.block⟩
theorem Kept.of_drew {S : Nat → Prop} {a b : World} (h : Kept S a.drew b) : Kept S a b := ⟨h.os, h.tape, h.output, h.size, h.block⟩
theorem Kept.set {S : Nat → Prop} {a b : World} (h : Kept S a b) {p : Addr} (hp : S p.block) (u : Value) : Kept S a (b.setCell p u) :=
  h.trans ⟨rfl, rfl, rfl, by simp [World.setCell], fun k _ hn => Below.heap_setCell _ _ _ _ (fun e => hn (e ▸ hp))⟩
theorem Kept.one {g i : Nat} {a b : World} (h : Kept (fun k => k = g) a b) (u : Value) : Kept (fun k => k = g) a (b.setCell ⟨g, i, none⟩ u) := h.set (p := ⟨g, i, none⟩) rfl u
theorem Kept.alloc {S : Nat → Prop} {a b : World} (h : Kept S a b) (o : Obj) : Kept S a (b.alloc o) := h.trans (Kept.of_grow (grow_new _ _))
theorem Kept.cell {S : Nat → Prop} {a b : World} (h : Kept S a b) {p : Addr} (hp : p.block < a.heap.size) (hs : ¬ S p.block) : b.cell? p = a.cell? p := World.cell?_of_block (w := a) (h.block p.block hp hs)
/-- what was made after w may have turned: nothing of w has -/
theorem Kept.grow {S : Nat → Prop} {w a b : World} (h : Grow w a) (k : Kept S a b) (hs : ∀ i, S i → w.heap.size ≤ i) : Grow w b :=
  ⟨k.os.trans h.os, k.tape.trans h.tape, k.output.trans h.output, Nat.le_trans h.size k.size,
   fun i hi => (k.block i (Nat.lt_of_lt_of_le hi h.size) (fun x => by have := hs i x; omega)).trans (h.block i hi)⟩
theorem keptOrd (S : Nat → Prop) : Ord (Kept S) := ⟨Kept.refl S, Kept.trans⟩

/-- an address that lies in none of the blocks of S -/
def Off (S : Nat → Prop) (A : Option Addr) : Prop := ∀ a, A = some a → ¬ S a.block
theorem Off.none_ {S : Nat → Prop} : Off S none := fun _ h => by cases h
theorem Off.mono {S T : Nat → Prop} {A : Option Addr} (h : Off S A) (hs : ∀ k, T k → S k) : Off T A := fun a e x => h a e (hs _ x)
theorem Off.cut {S : Nat → Prop} {A : Option Addr} (h : Off S A) (d : Nat) : Off S (Option.map (fun x => x.add d) A) := fun a e x => by
  cases A with
  | none => cases e
  | some b =>
    cases e
    refine h b rfl ?_
    have : (b.add d).block = b.block := by unfold Addr.add; split <;> rfl
    rw [← this]
    exact x
theorem Nums.kept {S : Nat → Prop} {k : IntKind} {w w' : World} {B : Nat} {A : Option Addr} {xs : List Int} (h : Nums k w B A xs) (ho : Off S A) (hk : Kept S w w') (hB : B ≤ w.heap.size) : Nums k w' B A xs := fun hn => by
  obtain ⟨b, off, e, hb, hc⟩ := h hn
  exact ⟨b, off, e, hb, fun i hi => (hk.cell (p := ⟨b, off + i, none⟩) (Nat.lt_of_lt_of_le hb hB) (ho ⟨b, off, none⟩ e)).trans (hc i hi)⟩

theorem Nums.keep_ {S : Nat → Prop} {k : IntKind} {w w' : World} {B : Nat} {A : Option Addr} {xs : List Int} (h : Nums k w B A xs) (hB : B ≤ w.heap.size) (hk : Kept S w w') (hs : ∀ k, S k → B ≤ k) : Nums k w' B A xs := fun hn => by
  obtain ⟨b, off, e, hb, hc⟩ := h hn
  have hne : ¬ S b := fun x => by have := hs b x; omega
  exact ⟨b, off, e, hb, fun i hi => (hk.cell (p := ⟨b, off + i, none⟩) (Nat.lt_of_lt_of_le hb hB) hne).trans (hc i hi)⟩

/-- what a cursor has: the bytes that are left, the place, the fault's error and place -/
structure St where
  bs : List Int
  p : Int
  e : Int
  q : Int

/-- the bytes that are left; the address is that of a row that no block of S is -/
def Has (S : Nat → Prop) (w : World) (A : Option Addr) (cap : Nat) (bs : List Int) : Prop := (A = none → cap = 0) ∧ bs.length ≤ cap ∧ Nums .u8 w w.heap.size A bs ∧ Off S A

theorem Has.kept {S T : Nat → Prop} {w w' : World} {A : Option Addr} {cap : Nat} {bs : List Int} (h : Has S w A cap bs) (hk : Kept T w w') (hT : ∀ k, T k → S k) : Has S w' A cap bs :=
  ⟨h.1, h.2.1, (h.2.2.1.kept (h.2.2.2.mono hT) hk (Nat.le_refl _)).more hk.size, h.2.2.2⟩
theorem Has.cut {S : Nat → Prop} {w : World} {A : Option Addr} {cap : Nat} {bs : List Int} (h : Has S w A cap bs) (d : Nat) (hd : d ≤ bs.length) : Has S w (if cap = d then A else Option.map (fun x => x.add d) A) (cap - d) (bs.drop d) := by
  refine ⟨fun hn => ?_, by rw [List.length_drop]; have := h.2.1; omega, cut_addr h.2.2.1 h.2.1, ?_⟩
  · by_cases e : cap = d
    · omega
    · rw [if_neg e] at hn
      cases A with
      | none => have := h.1 rfl; omega
      | some a => cases hn
  · by_cases e : cap = d
    · rw [if_pos e]; exact h.2.2.2
    · rw [if_neg e]; exact h.2.2.2.cut d
theorem Has.nil {S : Nat → Prop} {w : World} : Has S w none 0 [] := ⟨fun _ => rfl, Nat.le_refl _, Nums.none_, Off.none_⟩

/-- the cursor at block g, as a block of type t -/
def IsC (t : TypeId) (S : Nat → Prop) (w : World) (g : Nat) (s : St) : Prop :=
  S g ∧ ∃ A cap, w.heap[g]? = some (.cells #[.slice A s.bs.length cap, .int .i64 s.p, .int .i64 s.e, .int .i64 0, .int .i64 s.q] t (0, 0)) ∧ Has S w A cap s.bs

theorem IsC.kept {t : TypeId} {S T : Nat → Prop} {w w' : World} {g : Nat} {s : St} (h : IsC t S w g s) (hk : Kept T w w') (hT : ∀ k, T k → S k) (hg : ¬ T g) : IsC t S w' g s := by
  obtain ⟨hS, A, cap, hb, hh⟩ := h
  exact ⟨hS, A, cap, (hk.block g (Array.getElem?_eq_some_iff.1 hb).1 hg).trans hb, hh.kept hk hT⟩
theorem IsC.lt {t : TypeId} {S : Nat → Prop} {w : World} {g : Nat} {s : St} (h : IsC t S w g s) : g < w.heap.size := by
  obtain ⟨_, A, cap, hb, _⟩ := h
  exact (Array.getElem?_eq_some_iff.1 hb).1
theorem IsC.grow {t : TypeId} {S : Nat → Prop} {w w' : World} {g : Nat} {s : St} (h : IsC t S w g s) (hk : Grow w w') : IsC t S w' g s := h.kept (T := fun _ => False) (Kept.of_grow hk) (fun _ x => x.elim) (fun x => x)

def failS (e : Int) (s : St) : St := if e = 0 ∨ s.e ≠ 0 then s else ⟨[], s.p, e, s.p⟩
def passS (k : Nat) (s : St) : St := ⟨s.bs.drop k, s.p + k, s.e, s.q⟩
def byteS (s : St) : Int × St := if s.bs = [] then (0, failS 2 s) else (s.bs.getD 0 0, passS 1 s)
def settleS (x k e0 : Nat) (s : St) : Nat × St := if e0 ≠ 0 then (0, failS e0 s) else (x, passS k s)
def numS (most : Int) (s : St) : Nat × St := settleS (takeN s.bs).1 (takeN s.bs).2.1 (if (takeN s.bs).2.2 = 0 ∧ (most < 0 ∨ most < (takeN s.bs).1) then 3 else (takeN s.bs).2.2) s
def intS (s : St) : Int × St := (zagN (settleS (takeN s.bs).1 (takeN s.bs).2.1 (takeN s.bs).2.2 s).1, (settleS (takeN s.bs).1 (takeN s.bs).2.1 (takeN s.bs).2.2 s).2)
def takeS (n : Int) (s : St) : List Int × St := if n < 0 ∨ (s.bs.length : Int) < n then ([], failS 2 s) else (s.bs.take n.toNat, passS n.toNat s)
def endS (s : St) : Int × Int := if s.bs = [] then (s.e, s.q) else (4, s.p)

/-- what holds of every cursor -/
structure Good (s : St) : Prop where
  byt : Byt s.bs
  p0 : 0 ≤ s.p
  pl : s.p + s.bs.length ≤ 2199023255552
  nil : s.e ≠ 0 → s.bs = []
theorem Good.fail {s : St} (h : Good s) (e : Int) : Good (failS e s) := by
  unfold failS
  split
  · exact h
  · exact ⟨byt_nil, h.p0, by have := h.pl; simp; omega, fun _ => rfl⟩
theorem Good.pass {s : St} (h : Good s) (k : Nat) (hk : k ≤ s.bs.length) : Good (passS k s) :=
  ⟨h.byt.drop k, by have := h.p0; simp [passS]; omega, by have := h.pl; simp [passS]; omega, fun he => by have := h.nil he; simp [passS, this]⟩
theorem Good.len {s : St} (h : Good s) : s.bs.length ≤ 2199023255552 := by have := h.pl; have := h.p0; omega
theorem takeN_le (bs : List Int) (hb : Byt bs) (h : (takeN bs).2.2 = 0) : (takeN bs).2.1 ≤ bs.length := by
  obtain ⟨m, _, h2, _, h4, _⟩ := take_once bs 0 0 (takeN bs).1 (takeN bs).2.1 hb (by unfold takeN at h ⊢; exact Prod.ext rfl (Prod.ext rfl h))
  omega
theorem Good.settle {s : St} (h : Good s) (x k e0 : Nat) (hk : e0 = 0 → k ≤ s.bs.length) : Good (settleS x k e0 s).2 := by
  unfold settleS
  split
  · exact h.fail _
  · exact h.pass k (hk (by omega))
theorem Good.byte {s : St} (h : Good s) : Good (byteS s).2 := by
  unfold byteS
  split
  · exact h.fail _
  · rename_i hn
    refine h.pass 1 ?_
    have := List.length_pos_iff.2 hn
    omega
theorem Good.num {s : St} (h : Good s) (most : Int) : Good (numS most s).2 := h.settle _ _ _ (fun he => by
  split at he
  · cases he
  · exact takeN_le _ h.byt he)
theorem Good.int {s : St} (h : Good s) : Good (intS s).2 := h.settle _ _ _ (fun he => takeN_le _ h.byt he)
theorem Good.take {s : St} (h : Good s) (n : Int) : Good (takeS n s).2 := by
  unfold takeS
  split
  · exact h.fail _
  · exact h.pass _ (by omega)
end Go.Proofs.Ytoapfegmipopkaa
