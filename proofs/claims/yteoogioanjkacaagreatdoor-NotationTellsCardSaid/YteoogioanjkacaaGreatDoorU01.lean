/-
  Contracts, joined: Base, Box, NdMem, Kept, Fresh, Copies, Cuts, Norms, AllsA. Nothing is claimed here by itself.
-/
import Derived.Deep.RegionHeld3
import Derived.Below
import Derived.Deep.Draws
import Derived.WalkKit
import Derived.ProofKit
import Derived.Laws.OwnMore
import Derived.Deep.OwnRows
import Derived.Laws.Rows
import Derived.Laws.BitsAllLaws
import Derived.Test.YteoogioanjkacaaGreatDoorProg
import Derived.Deep.LoopGhost
import Derived.Lib.Hide
import Derived.Laws.CopyRow
import Derived.Laws.CopyOwn
import Derived.Laws.MakeOwn
import Derived.Lib.SmallJoins
import Derived.OpenShut
import Derived.BigRegion
import Derived.Laws.AppendOwnNone
import Derived.Maps.AppendAt
set_option maxRecDepth 100000
set_option maxHeartbeats 12800000
set_option linter.unusedSimpArgs false
set_option linter.unusedVariables false
namespace Go.Proofs.YteoogioanjkacaaGreatDoor
theorem Hh {p:Prop} (h:p):Go.RowKit.Hid p:=Go.Lib.hid h
end Go.Proofs.YteoogioanjkacaaGreatDoor
section
namespace Go.Proofs.YteoogioanjkacaaGreatDoor
open Go.RowKit
def Grow (w w':World):Prop:=Below w.heap.size w w'
theorem Grow.refl (w:World):Grow w w:=Below.refl _ _
theorem Grow.trans {a b c:World} (h:Grow a b) (k:Grow b c):Grow a c:=Below.trans h (Below.mono k h.size)
theorem Grow.drew {a b:World} (h:Grow a b):Grow a b.drew:=Below.drew h
theorem Grow.of_drew {a b:World} (h:Grow a.drew b):Grow a b:=⟨h.os,h.tape,h.output,h.size,h.block⟩
theorem Grow.drewN {a b:World} (h:Grow a b) (n:Nat):Grow a (b.drewN n):=⟨h.os,h.tape,h.output,h.size,h.block⟩
section
variable {P : Program} {ops : Array Oper} {Q : Exit → Act → World → Prop} {md : Region.Mode}
def wpAnyG (P:Program) (md:Region.Mode) (ops:Array Oper) (Q:Exit → Act → World → Prop):Nat → Array Bool → Act → World → Prop
 | 0,listed,a,w => Region.ready md ops listed = [] ∧ Q .normal a w
 | fuel + 1,listed,a,w =>
  (Region.ready md ops listed = [] → Q .normal a w) ∧
  ∀ i ∈ Region.ready md ops listed,wpOp P ops Q i (fun a' w' => Grow w w' ∧ wpAnyG P md ops Q fuel (listed.setIfInBounds i true) a' w') a w
theorem wpAny_of_grow:∀ (fuel:Nat) (listed:Array Bool) (a:Act) (w:World),wpAnyG P md ops Q fuel listed a w → wpAny P md ops Q fuel listed a w
 | 0,_,_,_,h => h
 | fuel + 1,_,_,_,h => ⟨h.1,fun i hi => wpOp_mono (fun a' w' h' => wpAny_of_grow fuel _ a' w' h'.2) (h.2 i hi)⟩
theorem YieldsIf.later {o:Oper} {v:Value} {a:Act} {w w':World} (h:YieldsIf P ops (Grow w) o v a) (hg:Grow w w'):YieldsIf P ops (Grow w') o v a :=
 h.imp (fun ⟨hw,hv⟩ => ⟨hw,fun x hx => hv x (hg.trans hx)⟩) id
theorem wpAnyG_first {i:Nat} {oi:Oper} {v:Value} (hi:ops[i]? = some oi) (hsel:∀ (j:Nat) (o:Oper) cs b,ops[j]? = some o → o.op ≠ .select cs b)
  (hQ:∀ c a w,Q (.panic c) (a.put oi.dst v) w → Q (.panic c) a w) :
  ∀ (fuel:Nat) (listed:Array Bool) (a:Act) (w:World),
   (∀ j oj,ops[j]? = some oj → j ≠ i → listed.getD j true = false → (∀ e ∈ oj.after,Region.binds md e = true → e.on ≠ i) → oi.apart ops oj = true) →
   i ∈ Region.ready md ops listed → YieldsIf P ops (Grow w) oi v a →
   wpAnyG P md ops Q fuel (listed.setIfInBounds i true) (a.put oi.dst v) w → wpAnyG P md ops Q (fuel + 1) listed a w:=by
 intro fuel
 induction fuel with
 | zero =>
  intro listed a w _ hr hy H;refine ⟨fun h => (by rw [h] at hr;cases hr),fun j hj => ?_⟩
  by_cases hji:j = i
  ·subst hji;exact hy.wpOp hi (Grow.refl w) ⟨Grow.refl w,H⟩
  ·have:=ready_mono hj hji
   rw [H.1] at this
   cases this
 | succ fuel ih =>
  intro listed a w hfree hr hy H;refine ⟨fun h => (by rw [h] at hr;cases hr),fun j hj => ?_⟩
  by_cases hji:j = i
  ·subst hji;exact hy.wpOp hi (Grow.refl w) ⟨Grow.refl w,H⟩
  ·have h1:=H.2 j (ready_mono hj hji)
   obtain ⟨hjun,oj,hoj,hall⟩:=mem_ready.1 hj;have hnot:∀ e ∈ oj.after,Region.binds md e = true → e.on ≠ i:=fun e he hb heq => by
    have h1:=hall e he hb;have h0:=(mem_ready.1 hr).1;rw [heq] at h1
    rcases Nat.lt_or_ge i listed.size with h' | h'
    ·simp [h'] at h0 h1;rw [h0] at h1;cases h1
    ·simp [Array.getElem?_eq_none h'] at h1
   have h2:=wpOp_putIf hoj (hfree j oj hoj hji hjun hnot) (fun cs b => hsel i oi cs b hi) (fun cs b => hsel j oj cs b hoj) hQ hy h1;have hfree':∀ k ok,ops[k]? = some ok → k ≠ i → (listed.setIfInBounds j true).getD k true = false →
     (∀ e ∈ ok.after,Region.binds md e = true → e.on ≠ i) → oi.apart ops ok = true:=fun k ok hk hki hun hno => by
    refine hfree k ok hk hki ?_ hno
    by_cases hjk:j = k
    ·subst hjk;exact hjun
    ·rw [getD_set_ne true hjk] at hun;exact hun
   refine wpOp_mono (fun a' w' h3 => ⟨h3.2.1,ih (listed.setIfInBounds j true) a' w' hfree' (ready_mono hr (Ne.symm hji)) (YieldsIf.later h3.1 h3.2.1) ?_⟩) h2;rw [Array.setIfInBounds_comm _ _ hji];exact h3.2.2
theorem at_of_drop {l rest:List Oper} {i:Nat} {o:Oper} (h:l.drop i = o :: rest):l.toArray[i]? = some o:=by
 have:(l.drop i)[0]? = some o:=by rw [h];rfl
 simpa using this
theorem wpAnyG_take {l rest:List Oper} {i:Nat} {oi:Oper} {v:Value} {fuel:Nat} {listed:Array Bool} {a:Act} {w:World} (hi:l.drop i = oi :: rest)
  (hs:Region.noSelect l.toArray = true) (hf:Region.free md l.toArray listed i = true) (hr:(Region.ready md l.toArray listed).contains i = true)
  (hQ:∀ c a w,Q (.panic c) (a.put oi.dst v) w → Q (.panic c) a w) (hw:Region.wanted oi (yielded l.toArray a.tmps) = true)
  (hy:∀ x,Grow w x → (execOp a.eval oi).run P x = .ok (.value v) x)
  (h:wpAnyG P md l.toArray Q fuel (listed.setIfInBounds i true) (a.put oi.dst v) w):wpAnyG P md l.toArray Q (fuel + 1) listed a w :=
 wpAnyG_first (at_of_drop hi) (Region.noSelect_spec hs) hQ fuel listed a w (Region.free_spec (at_of_drop hi) hf) (by simpa using hr) (.inl ⟨hw,hy⟩) h
theorem wpAnyG_done {fuel:Nat} {listed:Array Bool} {a:Act} {w:World} (hr:Region.ready md ops listed = []) (h:Q .normal a w):wpAnyG P md ops Q fuel listed a w:=by
 cases fuel with
 | zero => exact ⟨hr,h⟩
 | succ n => exact ⟨fun _ => h,by rw [hr];simp⟩
theorem wp_region_grow {id:Nat} {a:Act} {w:World} {l:List Oper} {n:Nat} (hn:l.length = n) (hm:P.follows .mixedOrders = true)
  (h:wpAnyG P .any l.toArray Q n (Array.replicate n false) a w.drew):(Code.region id l.toArray true).wp P Q a w:=by
 subst hn;exact wp_region_any hm (wpAny_of_grow _ _ _ _ (by simpa using h))
end
open Go.RowKit
def Nums (k:IntKind) (w:World) (B:Nat) (A:Option Addr) (xs:List Int):Prop :=
 0 < xs.length → ∃ b off,A = some ⟨b,off,none⟩ ∧ b < B ∧ ∀ i,i < xs.length → w.cell? ⟨b,off + i,none⟩ = some (.int k (xs.getD i 0))
section
variable {k : IntKind} {w w' : World} {B B' : Nat} {A : Option Addr} {xs : List Int}
theorem Nums.keep (h:Nums k w B A xs) (hk:∀ p:Addr,p.block < B → w'.cell? p = w.cell? p):Nums k w' B A xs:=fun hn => by
 obtain ⟨b,off,e,hb,hc⟩:=h hn;exact ⟨b,off,e,hb,fun i hi => (hk _ hb).trans (hc i hi)⟩
theorem Nums.more (h:Nums k w B A xs) (hB:B ≤ B'):Nums k w B' A xs:=fun hn => by
 obtain ⟨b,off,e,hb,hc⟩:=h hn;exact ⟨b,off,e,by omega,hc⟩
theorem Nums.below (h:Nums k w B A xs) (hb:Below B w w'):Nums k w' B A xs:=h.keep fun _ hp => hb.cell hp
theorem Nums.none_:Nums k w B A []:=fun h => absurd h (by simp)
end
open Go.RowKit
structure Ord (G:World → World → Prop):Prop where
 refl:∀ w,G w w
 trans:∀ {a b c},G a b → G b c → G a c
theorem growOrd:Ord Grow:=⟨Grow.refl,Grow.trans⟩
theorem belowOrd (B:Nat):Ord (Below B):=⟨Below.refl B,Below.trans⟩
section
variable {P : Program} {ops : Array Oper} {Q : Exit → Act → World → Prop} {md : Region.Mode} {G : World → World → Prop}
def wpR (G:World → World → Prop) (P:Program) (md:Region.Mode) (ops:Array Oper) (Q:Exit → Act → World → Prop):Nat → Array Bool → Act → World → Prop
 | 0,listed,a,w => Region.ready md ops listed = [] ∧ Q .normal a w
 | fuel + 1,listed,a,w =>
  (Region.ready md ops listed = [] → Q .normal a w) ∧
  ∀ i ∈ Region.ready md ops listed,wpOp P ops Q i (fun a' w' => G w w' ∧ wpR G P md ops Q fuel (listed.setIfInBounds i true) a' w') a w
theorem wpAny_of_R:∀ (fuel:Nat) (listed:Array Bool) (a:Act) (w:World),wpR G P md ops Q fuel listed a w → wpAny P md ops Q fuel listed a w
 | 0,_,_,_,h => h
 | fuel + 1,_,_,_,h => ⟨h.1,fun i hi => wpOp_mono (fun a' w' h' => wpAny_of_R fuel _ a' w' h'.2) (h.2 i hi)⟩
theorem laterR (hG:Ord G) {o:Oper} {v:Value} {a:Act} {w w':World} (h:YieldsIf P ops (G w) o v a) (hg:G w w'):YieldsIf P ops (G w') o v a :=
 h.imp (fun ⟨hw,hv⟩ => ⟨hw,fun x hx => hv x (hG.trans hg hx)⟩) id
theorem wpR_first (hG:Ord G) {i:Nat} {oi:Oper} {v:Value} (hi:ops[i]? = some oi) (hsel:∀ (j:Nat) (o:Oper) cs b,ops[j]? = some o → o.op ≠ .select cs b)
  (hQ:∀ c a w,Q (.panic c) (a.put oi.dst v) w → Q (.panic c) a w) :
  ∀ (fuel:Nat) (listed:Array Bool) (a:Act) (w:World),
   (∀ j oj,ops[j]? = some oj → j ≠ i → listed.getD j true = false → (∀ e ∈ oj.after,Region.binds md e = true → e.on ≠ i) → oi.apart ops oj = true) →
   i ∈ Region.ready md ops listed → YieldsIf P ops (G w) oi v a →
   wpR G P md ops Q fuel (listed.setIfInBounds i true) (a.put oi.dst v) w → wpR G P md ops Q (fuel + 1) listed a w:=by
 intro fuel
 induction fuel with
 | zero =>
  intro listed a w _ hr hy H;refine ⟨fun h => (by rw [h] at hr;cases hr),fun j hj => ?_⟩
  by_cases hji:j = i
  ·subst hji;exact hy.wpOp hi (hG.refl w) ⟨hG.refl w,H⟩
  ·have:=ready_mono hj hji
   rw [H.1] at this
   cases this
 | succ fuel ih =>
  intro listed a w hfree hr hy H;refine ⟨fun h => (by rw [h] at hr;cases hr),fun j hj => ?_⟩
  by_cases hji:j = i
  ·subst hji;exact hy.wpOp hi (hG.refl w) ⟨hG.refl w,H⟩
  ·have h1:=H.2 j (ready_mono hj hji)
   obtain ⟨hjun,oj,hoj,hall⟩:=mem_ready.1 hj;have hnot:∀ e ∈ oj.after,Region.binds md e = true → e.on ≠ i:=fun e he hb heq => by
    have h1:=hall e he hb;have h0:=(mem_ready.1 hr).1;rw [heq] at h1
    rcases Nat.lt_or_ge i listed.size with h' | h'
    ·simp [h'] at h0 h1;rw [h0] at h1;cases h1
    ·simp [Array.getElem?_eq_none h'] at h1
   have h2:=wpOp_putIf hoj (hfree j oj hoj hji hjun hnot) (fun cs b => hsel i oi cs b hi) (fun cs b => hsel j oj cs b hoj) hQ hy h1;have hfree':∀ k ok,ops[k]? = some ok → k ≠ i → (listed.setIfInBounds j true).getD k true = false →
     (∀ e ∈ ok.after,Region.binds md e = true → e.on ≠ i) → oi.apart ops ok = true:=fun k ok hk hki hun hno => by
    refine hfree k ok hk hki ?_ hno
    by_cases hjk:j = k
    ·subst hjk;exact hjun
    ·rw [getD_set_ne true hjk] at hun;exact hun
   refine wpOp_mono (fun a' w' h3 => ⟨h3.2.1,ih (listed.setIfInBounds j true) a' w' hfree' (ready_mono hr (Ne.symm hji)) (laterR hG h3.1 h3.2.1) ?_⟩) h2;rw [Array.setIfInBounds_comm _ _ hji];exact h3.2.2
theorem wpR_take (hG:Ord G) {l rest:List Oper} {i:Nat} {oi:Oper} {v:Value} {fuel:Nat} {listed:Array Bool} {a:Act} {w:World} (hi:l.drop i = oi :: rest)
  (hs:Region.noSelect l.toArray = true) (hf:Region.free md l.toArray listed i = true) (hr:(Region.ready md l.toArray listed).contains i = true)
  (hQ:∀ c a w,Q (.panic c) (a.put oi.dst v) w → Q (.panic c) a w) (hw:Region.wanted oi (yielded l.toArray a.tmps) = true)
  (hy:∀ x,G w x → (execOp a.eval oi).run P x = .ok (.value v) x)
  (h:wpR G P md l.toArray Q fuel (listed.setIfInBounds i true) (a.put oi.dst v) w):wpR G P md l.toArray Q (fuel + 1) listed a w :=
 wpR_first hG (at_of_drop hi) (Region.noSelect_spec hs) hQ fuel listed a w (Region.free_spec (at_of_drop hi) hf) (by simpa using hr) (.inl ⟨hw,hy⟩) h
theorem wpR_any {is:List Nat} {fuel:Nat} {listed:Array Bool} {a:Act} {w:World} (hr:Region.ready md ops listed = is) (hne:is ≠ [])
  (h:∀ i ∈ is,wpOp P ops Q i (fun a' w' => G w w' ∧ wpR G P md ops Q fuel (listed.setIfInBounds i true) a' w') a w):wpR G P md ops Q (fuel + 1) listed a w :=
 ⟨fun h0 => absurd (hr.symm.trans h0) hne,fun i hi => h i (hr ▸ hi)⟩
theorem wpR_one {i:Nat} {fuel:Nat} {listed:Array Bool} {a:Act} {w:World} (hr:Region.ready md ops listed = [i])
  (h:wpOp P ops Q i (fun a' w' => G w w' ∧ wpR G P md ops Q fuel (listed.setIfInBounds i true) a' w') a w):wpR G P md ops Q (fuel + 1) listed a w :=
 wpR_any hr (by simp) (by simpa using h)
theorem wpR_two {i j:Nat} {fuel:Nat} {listed:Array Bool} {a:Act} {w:World} (hr:Region.ready md ops listed = [i,j])
  (h:wpOp P ops Q i (fun a' w' => G w w' ∧ wpR G P md ops Q fuel (listed.setIfInBounds i true) a' w') a w)
  (h2:wpOp P ops Q j (fun a' w' => G w w' ∧ wpR G P md ops Q fuel (listed.setIfInBounds j true) a' w') a w):wpR G P md ops Q (fuel + 1) listed a w :=
 wpR_any hr (by simp) (by simpa using ⟨h,h2⟩)
theorem wpR_three {i j k:Nat} {fuel:Nat} {listed:Array Bool} {a:Act} {w:World} (hr:Region.ready md ops listed = [i,j,k])
  (h:wpOp P ops Q i (fun a' w' => G w w' ∧ wpR G P md ops Q fuel (listed.setIfInBounds i true) a' w') a w)
  (h2:wpOp P ops Q j (fun a' w' => G w w' ∧ wpR G P md ops Q fuel (listed.setIfInBounds j true) a' w') a w)
  (h3:wpOp P ops Q k (fun a' w' => G w w' ∧ wpR G P md ops Q fuel (listed.setIfInBounds k true) a' w') a w):wpR G P md ops Q (fuel + 1) listed a w :=
 wpR_any hr (by simp) (by simpa using ⟨h,h2,h3⟩)
theorem wpR_op {l rest:List Oper} {i:Nat} {o:Oper} {a:Act} {w:World} {X:Act → World → Prop} (ho:l.drop i = o :: rest) (hw:Region.wanted o (yielded l.toArray a.tmps) = true)
  (h:∀ K':Act → World → Prop,Shut (∀ a' w',G w w' → X a' w' → K' a' w') → Oper.wp P o a w K' Q):wpOp P l.toArray Q i (fun a' w' => G w w' ∧ X a' w') a w:=by
 refine wpOp_step (at_of_drop ho) (fun K' hK => ?_);rw [if_pos hw];exact h K' (fun a' w' hg hn => hK a' w' ⟨hg,hn⟩)
theorem wpR_done {fuel:Nat} {listed:Array Bool} {a:Act} {w:World} (hr:Region.ready md ops listed = []) (h:Q .normal a w):wpR G P md ops Q fuel listed a w:=by
 cases fuel with
 | zero => exact ⟨hr,h⟩
 | succ n => exact ⟨fun _ => h,by rw [hr];simp⟩
theorem wp_region_R (G:World → World → Prop) {id:Nat} {a:Act} {w:World} {l:List Oper} {n:Nat} (hn:l.length = n) (hm:P.follows .mixedOrders = true)
  (h:∀ W0,W0.heap = w.heap → Grow w W0 → wpR G P .any l.toArray Q n (Array.replicate n false) a W0):(Code.region id l.toArray true).wp P Q a w:=by
 subst hn;exact wp_region_any hm (wpAny_of_R (G:=G) _ _ _ _ (by simpa using h w.drew rfl (Grow.refl w).drew))
end
theorem grow_new (w:World) (o:Obj):Grow w (w.alloc o):=(Below.refl _ _).alloc (Nat.le_refl _) _
theorem Nums.grow {k:IntKind} {w w':World} {A:Option Addr} {xs:List Int} (h:Nums k w w.heap.size A xs) (hg:Grow w w'):Nums k w' w'.heap.size A xs:=(h.below hg).more hg.size
def prodN:List Nat → Nat
 | [] => 1
 | x :: xs => x * prodN xs
def toN (xs:List Int):List Nat:=xs.map Int.toNat
def okI (x:Int):Bool:=decide (0 ≤ x) && decide (x ≤ 1048576)
def rightB (xs:List Int):Bool:=decide (xs.length ≤ 16) && (xs.all okI && decide (prodN (toN xs) ≤ 1048576))
def cnt (xs:List Int):Nat:=if rightB xs = true then prodN (toN xs) else 0
def hor:Nat → List Nat → List Nat → Nat
 | p,x :: xs,a :: ys => hor (p * x + a) xs ys
 | p,_,_ => p
theorem prod_pos {xs:List Nat} (h:∀ x ∈ xs,0 < x):0 < prodN xs:=by
 induction xs with
 | nil => simp [prodN]
 | cons x xs ih => exact Nat.mul_pos (h x (by simp)) (ih fun y hy => h y (by simp [hy]))
theorem prod_zero {xs:List Nat} (h:0 ∈ xs):prodN xs = 0:=by
 induction xs with
 | nil => cases h
 | cons x xs ih =>
  rcases List.mem_cons.1 h with h | h
  ·subst h;simp [prodN]
  ·simp [prodN,ih h]
theorem pos_of_prod {xs:List Nat} (h:prodN xs ≠ 0):∀ x ∈ xs,0 < x:=by
 intro x hx
 rcases Nat.eq_zero_or_pos x with h0 | h0
 ·subst h0;exact absurd (prod_zero hx) h
 ·exact h0
theorem right_iff {xs:List Int}:rightB xs = true ↔ xs.length ≤ 16 ∧ xs.all okI = true ∧ prodN (toN xs) ≤ 1048576:=by simp [rightB]
theorem drop_at {α:Type} {xs:List α} {k:Nat} (d:α) (h:k < xs.length):xs.drop k = xs.getD k d :: xs.drop (k + 1):=by
 rw [List.drop_eq_getElem_cons h];simp [List.getD,h]
open Go.RowKit Go.Lib
def Gives (v:Value) (w:World) (e:Ending) (w':World):Prop:=e = .returned v ∧ w' = w
theorem beyond_any (x:Int) (w:World):Calls Tryz.prog 82 #[.int .i64 x] w (Gives (.bool (!okI x)) w):=by
 by_cases h0:x < 0
 ·have e:okI x = false:=by simp [okI];omega
  rw [e];clear e
  go_enter Tryz.func82,Tryz.ntmps82
  go_wp2;go_ret;exact ⟨rfl,rfl⟩
 ·by_cases h1:1048576 < x
  ·have e:okI x = false:=by simp [okI];omega
   rw [e];clear e
   go_enter Tryz.func82,Tryz.ntmps82
   go_wp2;go_ret;exact ⟨rfl,rfl⟩
  ·have e:okI x = true:=by simp [okI];omega
   rw [e];clear e
   go_enter Tryz.func82,Tryz.ntmps82
   go_wp2;go_ret;exact ⟨rfl,rfl⟩
theorem all_drop {p:Int → Bool} {xs:List Int} {k:Nat} (h:k < xs.length) (hx:p (xs.getD k 0) = true):(xs.drop k).all p = (xs.drop (k + 1)).all p:=by
 rw [drop_at 0 h,List.all_cons,hx,Bool.true_and]
theorem all_fails {p:Int → Bool} {xs:List Int} {k:Nat} (h:k < xs.length) (hx:p (xs.getD k 0) = false):(xs.drop k).all p = false:=by
 rw [drop_at 0 h,List.all_cons,hx,Bool.false_and]
def Finds (p:Int → Bool) (xs:List Int) (w:World) (e:Ending) (w':World):Prop :=
 ∃ j:Int,e = .returned (.int .i64 j) ∧ decide (0 ≤ j) = !(xs.all p) ∧ w' = w
theorem indexf_any (A:Option Addr) (n c:Nat) (xs:List Int) (w:World) (hn:xs.length = n) (hm:n ≤ 9223372036854775807) (hr:Nums .i64 w w.heap.size A xs) :
  Calls Tryz.prog 117 #[.slice A n c,.func (.func 82) #[] #[]] w (Finds okI xs w):=by
 have HR:=Hh hr;have HN:=Hh hn;clear hr hn
 go_enter Tryz.func117,Tryz.ntmps117
 go_wp2
 go_loopg [8] n (fun g s8 wr => ∃ k:Nat,k ≤ n ∧ g = n - k ∧ s8 = .int .i64 k ∧ Hid ((xs.drop k).all okI = xs.all okI) ∧ w = wr)
 case atStart => exact ⟨0,Nat.zero_le _,rfl,rfl,Hh rfl,rfl⟩
 case round =>
  obtain ⟨k,hk,rfl,rfl,HA,rfl⟩:=hrel
  by_cases hlt:k < n
  ·have hkl:k < xs.length:=by rw [HN.out];exact hlt
   obtain ⟨b,off,rfl,hb,hcl⟩:=HR.out (by omega)
   have hc:=hcl k hkl;have HT:=Hh (fun h => all_drop (p:=okI) hkl h);have HF:=Hh (fun h => all_fails (p:=okI) hkl h);clear hcl hkl;generalize xs.getD k 0 = x at hc HT HF
   cases hx:okI x with
   | true =>
    have HT':=Hh (HT.out hx);have hx':(!okI x) = false:=by rw [hx];rfl
    have HB:=Hh (beyond_any x w);rw [hx'] at HB;clear hx hx' HT HF;go_wp2_with (go_at_call 82;refine (HB.out).mono ?_;rintro e w2 ⟨rfl,rfl⟩)
    go_roundg (n - (k + 1))
    case rel => exact ⟨k + 1,by omega,rfl,by go_num,Hh (HT'.out.symm.trans HA.out),rfl⟩
    case measure => omega
   | false =>
    have HF':=Hh (HF.out hx);have hx':(!okI x) = true:=by rw [hx];rfl
    have HB:=Hh (beyond_any x w);rw [hx'] at HB;clear hx hx' HT HF;go_wp2_with (go_at_call 82;refine (HB.out).mono ?_;rintro e w2 ⟨rfl,rfl⟩)
    go_ret;refine ⟨_,rfl,?_,rfl⟩;rw [← HA.out,HF'.out];simp
  ·obtain rfl:n = k:=by omega
   have HF:=Hh (show xs.all okI = true by rw [← HA.out,List.drop_of_length_le (by rw [HN.out];exact Nat.le_refl _)];rfl)
   go_wp2;go_ret;refine ⟨_,rfl,?_,rfl⟩;rw [HF.out];rfl
theorem index0_any (A:Option Addr) (n c:Nat) (xs:List Int) (w:World) (hn:xs.length = n) (hm:n ≤ 9223372036854775807) (hr:Nums .i64 w w.heap.size A xs) :
  Calls Tryz.prog 118 #[.slice A n c,.int .i64 0] w (Finds (fun x => !(0 == x)) xs w):=by
 have HR:=Hh hr;have HN:=Hh hn;clear hr hn
 go_enter Tryz.func118,Tryz.ntmps118
 go_wp2
 go_loopg [8] n (fun g s8 wr => ∃ k:Nat,k ≤ n ∧ g = n - k ∧ s8 = .int .i64 k ∧ Hid ((xs.drop k).all (fun x => !(0 == x)) = xs.all (fun x => !(0 == x))) ∧ w = wr)
 case atStart => exact ⟨0,Nat.zero_le _,rfl,rfl,Hh rfl,rfl⟩
 case round =>
  obtain ⟨k,hk,rfl,rfl,HA,rfl⟩:=hrel
  by_cases hlt:k < n
  ·have hkl:k < xs.length:=by rw [HN.out];exact hlt
   obtain ⟨b,off,rfl,hb,hcl⟩:=HR.out (by omega)
   have hc:=hcl k hkl;have HT:=Hh (fun h => all_drop (p:=fun x => !(0 == x)) hkl h);have HF:=Hh (fun h => all_fails (p:=fun x => !(0 == x)) hkl h);clear hcl hkl;generalize xs.getD k 0 = x at hc HT HF
   cases hx:((0:Int) == x) with
   | false =>
    have HT':=Hh (HT.out (by simp only [hx];rfl))
    clear HT HF;go_wp2;go_roundg (n - (k + 1))
    case rel => exact ⟨k + 1,by omega,rfl,by go_num,Hh (HT'.out.symm.trans HA.out),rfl⟩
    case measure => omega
   | true =>
    have HF':=Hh (HF.out (by simp only [hx];rfl))
    clear HT HF;go_wp2;go_ret;refine ⟨_,rfl,?_,rfl⟩;rw [← HA.out,HF'.out];simp
  ·obtain rfl:n = k:=by omega
   have HF:=Hh (show xs.all (fun x => !(0 == x)) = true by rw [← HA.out,List.drop_of_length_le (by rw [HN.out];exact Nat.le_refl _)];rfl)
   go_wp2;go_ret;refine ⟨_,rfl,?_,rfl⟩;rw [HF.out];rfl
theorem containsf_any (A:Option Addr) (n c:Nat) (xs:List Int) (w:World) (hn:xs.length = n) (hm:n ≤ 9223372036854775807) (hr:Nums .i64 w w.heap.size A xs) :
  Calls Tryz.prog 83 #[.slice A n c,.func (.func 82) #[] #[]] w (Gives (.bool (!(xs.all okI))) w):=by
 have HI:=Hh (indexf_any A n c xs w hn hm hr);clear hr hn
 go_enter Tryz.func83,Tryz.ntmps83
 go_wp2_with fail;refine (HI.out).mono ?_;rintro e w2 ⟨j,rfl,hj,rfl⟩;have HJ:=Hh hj;clear hj HI;go_wp2;go_ret;exact ⟨by rw [← HJ.out];rfl,rfl⟩
theorem contains0_any (A:Option Addr) (n c:Nat) (xs:List Int) (w:World) (hn:xs.length = n) (hm:n ≤ 9223372036854775807) (hr:Nums .i64 w w.heap.size A xs) :
  Calls Tryz.prog 84 #[.slice A n c,.int .i64 0] w (Gives (.bool (!(xs.all fun x => !(0 == x)))) w):=by
 have HI:=Hh (index0_any A n c xs w hn hm hr);clear hr hn
 go_enter Tryz.func84,Tryz.ntmps84
 go_wp2_with fail;refine (HI.out).mono ?_;rintro e w2 ⟨j,rfl,hj,rfl⟩;have HJ:=Hh hj;clear hj HI;go_wp2;go_ret;exact ⟨by rw [← HJ.out];rfl,rfl⟩
open Go.RowKit Go.Lib
theorem right_long {xs:List Int} (h:16 < xs.length):rightB xs = false:=by
 have:¬ xs.length ≤ 16:=by omega
 simp [rightB,this]
theorem right_out {xs:List Int} (h:xs.all okI = false):rightB xs = false:=by simp [rightB,h]
theorem cnt_no {xs:List Int} (h:rightB xs = false):cnt xs = 0:=by simp [cnt,h]
theorem cnt_yes {xs:List Int} (h:rightB xs = true):cnt xs = prodN (toN xs):=by simp [cnt,h]
theorem zero_of_any {xs:List Int} (h:(xs.all fun x => !(0 == x)) = false):prodN (toN xs) = 0:=by
 refine prod_zero ?_;rw [List.all_eq_false] at h;obtain ⟨x,hx,h0⟩:=h;have h1:((0:Int) == x) = true:=by simpa using h0
 have:x = 0:=(beq_iff_eq.1 h1).symm;subst this;exact List.mem_map.2 ⟨0,hx,rfl⟩
theorem right_zero {xs:List Int} (h16:xs.length ≤ 16) (ha:xs.all okI = true) (h:prodN (toN xs) = 0):rightB xs = true ∧ cnt xs = 0:=by
 have:rightB xs = true:=right_iff.2 ⟨h16,ha,by omega⟩
 exact ⟨this,by rw [cnt_yes this,h]⟩
theorem at_ok {xs:List Int} {k:Nat} (h:k < xs.length) (ha:xs.all okI = true):∃ m:Nat,xs.getD k 0 = (m:Nat) ∧ m ≤ 1048576:=by
 have e:xs.getD k 0 = xs[k]:=by simp [List.getD,h]
 have:=List.all_eq_true.1 ha xs[k] (List.getElem_mem h);simp only [okI,Bool.and_eq_true,decide_eq_true_eq] at this;exact ⟨xs[k].toNat,by rw [e];omega,by omega⟩
theorem prod_drop {xs:List Int} {k m:Nat} (h:k < xs.length) (e:xs.getD k 0 = (m:Nat)):prodN (toN (xs.drop k)) = m * prodN (toN (xs.drop (k + 1))):=by
 rw [drop_at 0 h,e];simp [toN,prodN]
theorem pos_drop {xs:List Int} (h:prodN (toN xs) ≠ 0) (k:Nat):0 < prodN (toN (xs.drop k)):=by
 refine prod_pos fun x hx => pos_of_prod h x ?_;simp only [toN,List.mem_map] at hx ⊢;obtain ⟨y,hy,rfl⟩:=hx;exact ⟨y,List.mem_of_mem_drop hy,rfl⟩
theorem pos_of_all {xs:List Int} (ha:xs.all okI = true) (h:(xs.all fun x => !(0 == x)) = true):prodN (toN xs) ≠ 0:=by
 have:0 < prodN (toN xs):=prod_pos fun x hx => by
  obtain ⟨y,hy,rfl⟩:=List.mem_map.1 hx;have h1:=List.all_eq_true.1 ha y hy;have h2:=List.all_eq_true.1 h y hy;simp only [okI,Bool.and_eq_true,decide_eq_true_eq] at h1;simp at h2;omega
 omega
theorem count_any (A:Option Addr) (n c:Nat) (xs:List Int) (w:World) (hn:xs.length = n) (hm:n ≤ 9223372036854775807) (hr:Nums .i64 w w.heap.size A xs) :
  Calls Tryz.prog 42 #[.slice A n c] w (Gives (.tuple #[.int .i64 (cnt xs:Nat),.bool (rightB xs)]) w):=by
 have HF:=Hh (containsf_any A n c xs w hn hm hr);have HZ:=Hh (contains0_any A n c xs w hn hm hr);have HR:=Hh hr;have HN:=Hh hn;clear hr hn
 by_cases h16:16 < n
 ·have h16i:(16:Int) < ((n:Nat):Int):=by omega
  have HB:=Hh (right_long (xs:=xs) (by rw [HN.out];exact h16))
  have HC:=Hh (cnt_no HB.out);rw [HB.out,HC.out]
  go_enter Tryz.func42,Tryz.ntmps42
  go_wp2;go_ret2;exact ⟨rfl,rfl⟩
 have h16i:¬ (16:Int) < ((n:Nat):Int):=by omega
 cases hall:xs.all okI with
 | false =>
  have HB:=Hh (right_out hall);have HC:=Hh (cnt_no HB.out);rw [HB.out,HC.out];rw [hall] at HF;clear hall
  go_enter Tryz.func42,Tryz.ntmps42
  go_wp2_with fail;refine (HF.out).mono ?_;rintro e w2 ⟨rfl,rfl⟩;go_wp2;go_ret2;exact ⟨rfl,rfl⟩
 | true =>
  rw [hall] at HF;have HAL:=Hh hall;clear hall
  cases hz:xs.all fun x => !(0 == x) with
  | false =>
   obtain ⟨hB,hC⟩:=right_zero (xs:=xs) (by rw [HN.out];omega) HAL.out (zero_of_any hz)
   rw [hB,hC];rw [hz] at HZ;clear hz hB hC
   go_enter Tryz.func42,Tryz.ntmps42
   go_wp2_with fail;refine (HF.out).mono ?_;rintro e w2 ⟨rfl,rfl⟩;go_wp2_with fail;refine (HZ.out).mono ?_;rintro e w3 ⟨rfl,rfl⟩;go_wp2;go_ret2;exact ⟨rfl,rfl⟩
  | true =>
   rw [hz] at HZ;have HP:=Hh (pos_of_all HAL.out hz);clear hz
   go_enter Tryz.func42,Tryz.ntmps42
   go_wp2_with fail;refine (HF.out).mono ?_;rintro e w2 ⟨rfl,rfl⟩;go_wp2_with fail;refine (HZ.out).mono ?_;rintro e w3 ⟨rfl,rfl⟩;clear HF HZ;go_wp2
   go_loopg [5,20] n (fun g s5 s20 wr => ∃ k q:Nat,k ≤ n ∧ g = n - k ∧ s5 = .int .i64 q ∧ s20 = .int .i64 k ∧ 1 ≤ q ∧ q ≤ 1048576 ∧ Hid (prodN (toN xs) = q * prodN (toN (xs.drop k))) ∧ w3 = wr)
   case atStart => exact ⟨0,1,Nat.zero_le _,rfl,rfl,rfl,Nat.le_refl _,by omega,Hh (by simp),rfl⟩
   case round =>
    obtain ⟨k,q,hk,rfl,rfl,rfl,hq1,hq,HQ,rfl⟩:=hrel
    by_cases hlt:k < n
    ·have hkl:k < xs.length:=by rw [HN.out];exact hlt
     obtain ⟨b,off,rfl,hb,hcl⟩:=HR.out (by omega)
     have hc:=hcl k hkl;obtain ⟨m,hm',hmb⟩:=at_ok hkl HAL.out;have HD:=Hh (prod_drop hkl hm');rw [hm'] at hc;clear hcl hkl hm';have hqm:q * m ≤ 1048576 * 1048576:=Nat.mul_le_mul hq hmb;have hpos:=pos_drop HP.out (k + 1);have HPM:Hid (prodN (toN xs) = q * m * prodN (toN (xs.drop (k + 1)))):=Hh (by rw [HQ.out,HD.out,Nat.mul_assoc])
     have HPN:Hid (0 < q * m):=Hh (by
      rcases Nat.eq_zero_or_pos (q * m) with h0 | h0
      ·exact absurd (by rw [HPM.out,h0,Nat.zero_mul]) HP.out
      ·exact h0)
     have HLE:Hid (q * m ≤ prodN (toN xs)):=Hh (by rw [HPM.out];exact Nat.le_mul_of_pos_right _ hpos)
     have hmul:((q:Nat):Int) * ((m:Nat):Int) = ((q * m:Nat):Int):=by simp
     obtain ⟨p,hp⟩:∃ p,q * m = p:=⟨_,rfl⟩;rw [hp] at hmul hqm HPM HPN HLE;have hwr:IntKind.i64.wrap (((q:Nat):Int) * ((m:Nat):Int)) = ((p:Nat):Int):=by rw [hmul,IntKind.wrap_i64];omega
     clear hpos HD hp hmul
     by_cases hgt:1048576 < p
     ·have hgti:(1048576:Int) < ((p:Nat):Int):=by omega
      have HB:Hid (rightB xs = false):=Hh (by
       cases hb:rightB xs with
       | false => rfl
       | true => have:=(right_iff.1 hb).2.2;have:=HLE.out;omega)
      have HC:=Hh (cnt_no HB.out);go_wp2;go_ret2;exact ⟨by rw [HB.out,HC.out];rfl,rfl⟩
     ·have hgti:¬ (1048576:Int) < ((p:Nat):Int):=by omega
      go_wp2;go_roundg (n - (k + 1))
      case rel => exact ⟨k + 1,p,by omega,rfl,rfl,by go_num,HPN.out,by omega,HPM,rfl⟩
      case measure => omega
    ·obtain rfl:n = k:=by omega
     have HE:Hid (prodN (toN xs) = q):=Hh (by rw [HQ.out,List.drop_of_length_le (by rw [HN.out];exact Nat.le_refl _)];simp [toN,prodN])
     have HB:Hid (rightB xs = true):=Hh (right_iff.2 ⟨by rw [HN.out];omega,HAL.out,by rw [HE.out];exact hq⟩)
     have HC:Hid (cnt xs = q):=Hh ((cnt_yes HB.out).trans HE.out);go_wp2;go_ret2;exact ⟨by rw [HB.out,HC.out];rfl,rfl⟩
abbrev Dc:=Int × Int
def In (n:Int):Prop:=-9223372036854775808 ≤ n ∧ n ≤ 9223372036854775807
theorem In.hi {n:Int} (h:In n):n ≤ 9223372036854775807:=h.2
def zs:Nat → Int → Nat
 | 0,_ => 0
 | f + 1,m => if m % 10 = 0 then zs f (m / 10) + 1 else 0
def okExp (e:Int):Bool:=decide (-32768 ≤ e ∧ e ≤ 32767)
def norm (m e:Int):Dc × Bool :=
 if m = 0 then ((0,0),true)
 else if okExp (e + (zs 20 m:Nat)) then ((m / 10 ^ zs 20 m,e + (zs 20 m:Nat)),true) else ((0,0),false)
def rightD (m e:Int):Bool:=decide (norm m e = ((m,e),true))
def RightD (m e:Int):Prop:=(m = 0 ∧ e = 0) ∨ (m % 10 ≠ 0 ∧ -32768 ≤ e ∧ e ≤ 32767)
theorem pow_pos10 (k:Nat):0 < (10:Int) ^ k:=by
 induction k with
 | zero => decide
 | succ k ih => rw [Int.pow_succ];omega
theorem zs_of:∀ (j f:Nat) (q:Int),q % 10 ≠ 0 → j < f → zs f (q * 10 ^ j) = j
 | 0,0,_,_,h => absurd h (by omega)
 | 0,f + 1,q,hq,_ => by rw [zs];simp [hq]
 | j + 1,0,_,_,h => absurd h (by omega)
 | j + 1,f + 1,q,hq,h => by
  have e:q * 10 ^ (j + 1) = (q * 10 ^ j) * 10:=by rw [Int.pow_succ,Int.mul_assoc]
  rw [zs,e,if_pos (by omega),show q * 10 ^ j * 10 / 10 = q * 10 ^ j by omega,zs_of j f q hq (by omega)]
theorem mul_ne {q:Int} (hq:q % 10 ≠ 0) (j:Nat):q * 10 ^ j ≠ 0:=by
 have:=pow_pos10 j;intro h
 rcases Int.mul_eq_zero.1 h with h | h <;> omega
theorem norm_of {m e q:Int} {j:Nat} (hm:m = q * 10 ^ j) (hq:q % 10 ≠ 0) (hj:j ≤ 19) :
  norm m e = if okExp (e + (j:Nat)) then ((q,e + (j:Nat)),true) else ((0,0),false):=by
 have h0:m ≠ 0:=by rw [hm];exact mul_ne hq j
 rw [norm,if_neg h0,hm,zs_of j 20 q hq (by omega),Int.mul_ediv_cancel _ (by have:=pow_pos10 j;omega)]
theorem norm_zero (e:Int):norm 0 e = ((0,0),true):=by rw [norm,if_pos rfl]
theorem parts_of:∀ (f:Nat) (m:Int),m ≠ 0 → m.natAbs < 10 ^ f → ∃ q j,m = q * 10 ^ j ∧ q % 10 ≠ 0 ∧ j < f
 | 0,m,h0,h => by simp at h;omega
 | f + 1,m,h0,h => by
  by_cases h10:m % 10 = 0
  ·have hlt:(m / 10).natAbs < 10 ^ f:=by rw [Nat.pow_succ] at h;omega
   obtain ⟨q,j,hm,hq,hj⟩:=parts_of f (m / 10) (by omega) hlt
   refine ⟨q,j + 1,?_,hq,by omega⟩
   rw [Int.pow_succ,← Int.mul_assoc,← hm];omega
  ·exact ⟨m,0,by simp,h10,by omega⟩
theorem parts_in {m : Int} (h : In m) (h0 : m ≠ 0) : ∃ q j, m = q * 10 ^ j ∧ q % 10 ≠ 0 ∧ j ≤ 18 := by
  obtain ⟨q, j, hm, hq, hj⟩ := parts_of 19 m h0 (by have := h.1; have := h.2; have : (10 : Nat) ^ 19 = 10000000000000000000 := by decide
                                                    omega)
  exact ⟨q, j, hm, hq, by omega⟩
theorem q_in {m q:Int} {j:Nat} (h:In m) (hm:m = q * 10 ^ j):In q:=by
 have h1:=h.1;have h2:=h.2;have hp:=pow_pos10 j;rw [hm] at h1 h2;have:q.natAbs ≤ (q * 10 ^ j).natAbs:=by
  rw [Int.natAbs_mul];exact Nat.le_mul_of_pos_right _ (by omega)
 constructor
 ·by_cases hq:0 ≤ q
  ·omega
  ·have:q * 10 ^ j ≤ 0:=by
    have:=Int.mul_le_mul_of_nonneg_right (show q ≤ 0 by omega) (show 0 ≤ (10:Int) ^ j by omega)
    simpa using this
   omega
 ·by_cases hq:q ≤ 0
  ·omega
  ·have:0 ≤ q * 10 ^ j:=Int.mul_nonneg (by omega) (by omega)
   omega
theorem j_le {m q:Int} {j:Nat} (h:In m) (hm:m = q * 10 ^ j) (hq:q ≠ 0):j ≤ 18:=by
 have h1:=h.1;have h2:=h.2
 rcases Nat.lt_or_ge 18 j with hj | hj
 ·exfalso
  have e:(q * 10 ^ j).natAbs = q.natAbs * 10 ^ j:=by rw [Int.natAbs_mul,Int.natAbs_pow];rfl
  have hp:(10:Nat) ^ 19 ≤ 10 ^ j:=Nat.pow_le_pow_right (by decide) hj
  have:10 ^ j ≤ q.natAbs * 10 ^ j:=Nat.le_mul_of_pos_left _ (by omega)
  have e19:(10:Nat) ^ 19 = 10000000000000000000:=by decide
  rw [hm] at h1 h2;omega
 ·exact hj
theorem norm_in {m e:Int} (hm:In m):In (norm m e).1.1:=by
 by_cases h0:m = 0
 ·subst h0;rw [norm_zero];constructor <;> decide
 ·obtain ⟨q,j,h,hq,hj⟩:=parts_in hm h0
  rw [norm_of h hq (by omega)]
  split
  ·exact q_in hm h
  ·constructor <;> decide
theorem norm_exp {m e:Int} (hm:In m):-32768 ≤ (norm m e).1.2 ∧ (norm m e).1.2 ≤ 32767:=by
 by_cases h0:m = 0
 ·subst h0;rw [norm_zero];decide
 ·obtain ⟨q,j,h,hq,hj⟩:=parts_in hm h0
  rw [norm_of h hq (by omega)]
  split
  ·rename_i ho
   simpa [okExp] using ho
  ·decide
theorem norm_exp_in {m e:Int} (hm:In m):In (norm m e).1.2:=by
 have:=norm_exp (e:=e) hm;constructor <;> omega
theorem norm_right {m e:Int} (hm:In m) (h:(norm m e).2 = true):RightD (norm m e).1.1 (norm m e).1.2:=by
 by_cases h0:m = 0
 ·subst h0;rw [norm_zero];exact .inl ⟨rfl,rfl⟩
 ·obtain ⟨q,j,hd,hq,hj⟩:=parts_in hm h0
  rw [norm_of hd hq (by omega)] at h ⊢
  split
  ·rename_i ho
   exact .inr ⟨hq,by simpa [okExp] using ho⟩
  ·exact .inl ⟨rfl,rfl⟩
theorem norm_self {m e:Int} (h:RightD m e):norm m e = ((m,e),true):=by
 rcases h with ⟨rfl,rfl⟩ | ⟨h10,h1,h2⟩
 ·exact norm_zero 0
 ·rw [norm_of (q:=m) (j:=0) (by simp) h10 (by omega)]
  simp [okExp,h1,h2]
theorem rightD_iff {m e:Int} (hm:In m):rightD m e = true ↔ RightD m e:=by
 unfold rightD;rw [decide_eq_true_iff];constructor
 ·intro h
  have:=norm_right (e:=e) hm (by rw [h])
  rw [h] at this;exact this
 ·exact norm_self
theorem rightD_of {m e:Int} (h:RightD m e):rightD m e = true:=by unfold rightD;rw [decide_eq_true_iff];exact norm_self h
instance (m e:Int):Decidable (RightD m e):=by unfold RightD;exact inferInstance
theorem norm_of_int {n:Int} (hn:In n):(norm n 0).2 = true:=by
 by_cases h0:n = 0
 ·subst h0;rfl
 ·obtain ⟨q,j,h,hq,hj⟩:=parts_in hn h0
  rw [norm_of h hq (by omega)]
  have:okExp (0 + (j:Nat)) = true:=by simp [okExp];omega
  rw [if_pos this]
structure Nd where
 kind:Int
 shp:List Int
 ints:List Int
 decs:List (Int × Int)
instance:Inhabited Nd:=⟨⟨0,[],[],[]⟩⟩
instance:DecidableEq Nd:=fun a b =>
 if h:a.kind = b.kind ∧ a.shp = b.shp ∧ a.ints = b.ints ∧ a.decs = b.decs then isTrue (by cases a;cases b;simp_all) else isFalse (fun e => h (by subst e;simp))
def nd0:Nd:=⟨0,[],[],[]⟩
def bitB (x:Int):Bool:=x == 0 || x == 1
def signB (x:Int):Bool:=(decide (0 ≤ x) && decide (x ≤ 1114111)) && (decide (x < 55296) || decide (57343 < x))
def decB (x:Int × Int):Bool:=rightD x.1 x.2
def fillB (n:Nd) (c:Nat):Bool :=
 if n.kind = 1 then (n.ints.length == c && n.decs.length == 0) && n.ints.all bitB
 else if n.kind = 2 then n.ints.length == c && n.decs.length == 0
 else if n.kind = 3 then (n.ints.length == c && n.decs.length == 0) && n.ints.all signB
 else if n.kind = 4 then (n.ints.length == 0 && n.decs.length == c) && n.decs.all decB
 else if n.kind = 5 then n.ints.length == 0 && n.decs.length == 0
 else false
def okB (n:Nd):Bool:=rightB n.shp && fillB n (cnt n.shp)
def itm (n:Nd):Nat:=if okB n = true then cnt n.shp else 0
structure St where
 n:Nat
 i:Nat
 d:Nat
 r:Nat
def st0:St:=⟨0,0,0,0⟩
def St.plus (s t:St):St:=⟨s.n + t.n,s.i + t.i,max s.d t.d,max s.r t.r⟩
theorem plus_zero (s:St):s.plus st0 = s:=by cases s;simp [St.plus,st0]
theorem zero_plus (s:St):st0.plus s = s:=by cases s;simp [St.plus,st0]
theorem plus_assoc (a b c:St):(a.plus b).plus c = a.plus (b.plus c):=by
 simp only [St.plus,St.mk.injEq];refine ⟨?_,?_,?_,?_⟩ <;> omega
def kc (n:Nd):Nat:=if n.kind = 5 then cnt n.shp else 0
def top (n:Nd) (t:St):St:=⟨t.n + 1,t.i + cnt n.shp,t.d + 1,max t.r n.shp.length⟩
def parK (f:List Nd → Option St):Nat → List Nd → Option St
 | 0,_ => some st0
 | j + 1,l => (parK f j l).bind fun t => (f (l.drop t.n)).map t.plus
def par:Nat → List Nd → Option St
 | 0,_ => none
 | _ + 1,[] => none
 | d + 1,n :: l => if okB n = true then (parK (par d) (kc n) l).map (top n) else none
theorem par_cons (d:Nat) (n:Nd) (l:List Nd):par (d + 1) (n :: l) = if okB n = true then (parK (par d) (kc n) l).map (top n) else none:=rfl
theorem par_nil (d:Nat):par d [] = none:=by cases d <;> rfl
theorem parK_zero (f:List Nd → Option St) (l:List Nd):parK f 0 l = some st0:=rfl
theorem parK_succ (f:List Nd → Option St) (j:Nat) (l:List Nd):parK f (j + 1) l = (parK f j l).bind fun t => (f (l.drop t.n)).map t.plus:=rfl
theorem parK_some {f:List Nd → Option St} {j:Nat} {l:List Nd} {t:St} (h:parK f (j + 1) l = some t):∃ a b,parK f j l = some a ∧ f (l.drop a.n) = some b ∧ t = a.plus b:=by
 rw [parK_succ] at h
 cases ha:parK f j l with
 | none => simp [ha] at h
 | some a =>
  simp only [ha,Option.bind_some,Option.map_eq_some_iff] at h;obtain ⟨b,hb,rfl⟩:=h;exact ⟨a,b,rfl,hb,rfl⟩
theorem parK_mk {f:List Nd → Option St} {j:Nat} {l:List Nd} {a b:St} (ha:parK f j l = some a) (hb:f (l.drop a.n) = some b):parK f (j + 1) l = some (a.plus b):=by
 rw [parK_succ,ha,Option.bind_some,hb];rfl
theorem parK_to {f:List Nd → Option St}:∀ {c:Nat} {l:List Nd} {t:St},parK f c l = some t → ∀ j,j ≤ c → ∃ a,parK f j l = some a ∧ a.n ≤ t.n ∧ a.i ≤ t.i ∧ a.d ≤ t.d ∧ a.r ≤ t.r
 | 0,l,t,h,j,hj => by
  obtain rfl:j = 0:=by omega
  exact ⟨t,h,Nat.le_refl _,Nat.le_refl _,Nat.le_refl _,Nat.le_refl _⟩
 | c + 1,l,t,h,j,hj => by
  by_cases e:j = c + 1
  ·subst e;exact ⟨t,h,Nat.le_refl _,Nat.le_refl _,Nat.le_refl _,Nat.le_refl _⟩
  ·obtain ⟨a,b,ha,hb,rfl⟩:=parK_some h
   obtain ⟨a',ha',h1,h2,h3,h4⟩:=parK_to ha j (by omega)
   exact ⟨a',ha',by simp only [St.plus];omega,by simp only [St.plus];omega,by simp only [St.plus];omega,by simp only [St.plus];omega⟩
theorem parK_len {f:List Nd → Option St} (hf:∀ l s,f l = some s → s.n ≤ l.length):∀ {c:Nat} {l:List Nd} {t:St},parK f c l = some t → t.n ≤ l.length
 | 0,l,t,h => by rw [parK_zero] at h;cases h;exact Nat.zero_le _
 | c + 1,l,t,h => by
  obtain ⟨a,b,ha,hb,rfl⟩:=parK_some h;have h1:=parK_len hf ha;have h2:=hf _ _ hb;rw [List.length_drop] at h2;simp only [St.plus];omega
theorem parK_deep {f:List Nd → Option St} {d:Nat} (hf:∀ l s,f l = some s → s.d ≤ d):∀ {c:Nat} {l:List Nd} {t:St},parK f c l = some t → t.d ≤ d
 | 0,l,t,h => by rw [parK_zero] at h;cases h;exact Nat.zero_le _
 | c + 1,l,t,h => by
  obtain ⟨a,b,ha,hb,rfl⟩:=parK_some h;have h1:=parK_deep hf ha;have h2:=hf _ _ hb;simp only [St.plus];omega
theorem par_parts {d:Nat} {l:List Nd} {s:St} (h:par d l = some s):∃ e n l' t,d = e + 1 ∧ l = n :: l' ∧ okB n = true ∧ parK (par e) (kc n) l' = some t ∧ s = top n t:=by
 cases d with
 | zero => cases h
 | succ e =>
  cases l with
  | nil => cases h
  | cons n l' =>
   rw [par_cons] at h;split at h
   ·rename_i hn
    obtain ⟨t,ht,rfl⟩:=Option.map_eq_some_iff.1 h;exact ⟨e,n,l',t,rfl,rfl,hn,ht,rfl⟩
   ·cases h
theorem par_mk {e:Nat} {n:Nd} {l:List Nd} {t:St} (hn:okB n = true) (ht:parK (par e) (kc n) l = some t):par (e + 1) (n :: l) = some (top n t):=by
 rw [par_cons,if_pos hn,ht];rfl
theorem par_len:∀ {d:Nat} {l:List Nd} {s:St},par d l = some s → 1 ≤ s.n ∧ s.n ≤ l.length ∧ 1 ≤ s.d ∧ s.d ≤ d
 | 0,l,s,h => by cases h
 | d + 1,l,s,h => by
  obtain ⟨e,n,l',t,he,rfl,hn,ht,rfl⟩:=par_parts h;obtain rfl:d = e:=by omega
  have h1:=parK_len (fun l s h => (par_len h).2.1) ht;have h2:=parK_deep (fun l s h => (par_len h).2.2.2) ht;simp only [top,List.length_cons];omega
theorem take_part {l r:List Nd} {a b:Nat} (h:r.take (a + b) = l.take (a + b)):r.take a = l.take a ∧ (r.drop a).take b = (l.drop a).take b:=by
 constructor
 ·have:=congrArg (List.take a) h
  simpa [List.take_take] using this
 ·have:=congrArg (List.drop a) h
  simpa [List.drop_take] using this
theorem parK_local {f:List Nd → Option St} (hf:∀ l s,f l = some s → ∀ r:List Nd,r.take s.n = l.take s.n → f r = some s) :
  ∀ {c:Nat} {l:List Nd} {t:St},parK f c l = some t → ∀ r:List Nd,r.take t.n = l.take t.n → parK f c r = some t
 | 0,l,t,h,r,_ => by rw [parK_zero] at h ⊢;exact h
 | c + 1,l,t,h,r,hr => by
  obtain ⟨a,b,ha,hb,rfl⟩:=parK_some h;obtain ⟨h1,h2⟩:=take_part (a:=a.n) (b:=b.n) hr;exact parK_mk (parK_local hf ha r h1) (hf _ _ hb _ h2)
theorem par_local:∀ {d:Nat} {l:List Nd} {s:St},par d l = some s → ∀ r:List Nd,r.take s.n = l.take s.n → par d r = some s
 | 0,l,s,h,_,_ => by cases h
 | d + 1,l,s,h,r,hr => by
  obtain ⟨e,n,l',t,he,rfl,hn,ht,rfl⟩:=par_parts h;obtain rfl:d = e:=by omega
  cases r with
  | nil => simp [top] at hr
  | cons n' r' =>
   simp only [top,List.take_succ_cons,List.cons.injEq] at hr;obtain ⟨rfl,hr⟩:=hr;exact par_mk hn (parK_local (fun l s h => par_local h) ht r' hr)
theorem par_app {d:Nat} {l:List Nd} {s:St} (h:par d l = some s) (r:List Nd):par d (l ++ r) = some s :=
 par_local h _ (by rw [List.take_append_of_le_length (par_len h).2.1])
theorem par_take {d:Nat} {l:List Nd} {s:St} (h:par d l = some s) {k:Nat} (hk:s.n ≤ k):par d (l.take k) = some s :=
 par_local h _ (by rw [List.take_take];congr 1;omega)
theorem parK_depth {f g:List Nd → Option St} {e:Nat} (hf:∀ l s,f l = some s → s.d ≤ e → g l = some s) :
  ∀ {c:Nat} {l:List Nd} {t:St},parK f c l = some t → t.d ≤ e → parK g c l = some t
 | 0,l,t,h,_ => by rw [parK_zero] at h ⊢;exact h
 | c + 1,l,t,h,hd => by
  obtain ⟨a,b,ha,hb,rfl⟩:=parK_some h;simp only [St.plus] at hd;exact parK_mk (parK_depth hf ha (by omega)) (hf _ _ hb (by omega))
theorem par_depth:∀ {d:Nat} {l:List Nd} {s:St},par d l = some s → ∀ e,s.d ≤ e → par e l = some s
 | 0,l,s,h,_,_ => by cases h
 | d + 1,l,s,h,e,he => by
  obtain ⟨d',n,l',t,hd,rfl,hn,ht,rfl⟩:=par_parts h;obtain rfl:d = d':=by omega
  simp only [top] at he
  cases e with
  | zero => omega
  | succ e => exact par_mk hn (parK_depth (fun l s h hs => par_depth h e hs) ht (by omega))
theorem parK_cons {f:List Nd → Option St}:∀ {c:Nat} {l:List Nd} {t:St},parK f (c + 1) l = some t → ∃ a b,f l = some a ∧ parK f c (l.drop a.n) = some b ∧ t = a.plus b
 | 0,l,t,h => by
  obtain ⟨a,b,ha,hb,rfl⟩:=parK_some h;rw [parK_zero] at ha
  cases ha
  exact ⟨b,st0,by simpa [st0] using hb,rfl,by rw [zero_plus,plus_zero]⟩
 | c + 1,l,t,h => by
  obtain ⟨a,b,ha,hb,rfl⟩:=parK_some h;obtain ⟨x,y,hx,hy,rfl⟩:=parK_cons ha;refine ⟨x,y.plus b,hx,parK_mk hy ?_,plus_assoc _ _ _⟩;rw [List.drop_drop];exact hb
theorem parK_cons_mk {f:List Nd → Option St}:∀ {c:Nat} {l:List Nd} {a b:St},f l = some a → parK f c (l.drop a.n) = some b → parK f (c + 1) l = some (a.plus b)
 | 0,l,a,b,ha,hb => by
  rw [parK_zero] at hb
  cases hb
  rw [plus_zero];have:=parK_mk (f:=f) (j:=0) (l:=l) (a:=st0) (b:=a) rfl (by simpa [st0] using ha)
  rwa [zero_plus] at this
 | c + 1,l,a,b,ha,hb => by
  obtain ⟨x,y,hx,hy,rfl⟩:=parK_some hb;rw [← plus_assoc];refine parK_mk (parK_cons_mk ha hx) ?_;rw [show (a.plus x).n = a.n + x.n from rfl,← List.drop_drop];exact hy
def fstD (l:List Nd):Option St:=(par 16 l).bind fun s => if s.i ≤ 1048576 then some s else none
def whlD (l:List Nd):Option St:=(fstD l).bind fun s => if s.n = l.length then some s else none
def fs (l:List Nd):St:=(fstD l).getD st0
def ws (l:List Nd):St:=(whlD l).getD st0
def rightA (l:List Nd):Bool:=(whlD l).isSome
def takeA (l:List Nd):Nat:=(fs l).n
theorem fst_some {l:List Nd} {s:St} (h:fstD l = some s):par 16 l = some s ∧ s.i ≤ 1048576:=by
 unfold fstD at h
 cases hp:par 16 l with
 | none => simp [hp] at h
 | some t =>
  simp only [hp,Option.bind_some] at h;split at h
  ·cases h;exact ⟨rfl,by assumption⟩
  ·cases h
theorem fst_mk {l:List Nd} {s:St} (h:par 16 l = some s) (hi:s.i ≤ 1048576):fstD l = some s:=by
 unfold fstD;rw [h,Option.bind_some,if_pos hi]
theorem whl_some {l:List Nd} {s:St} (h:whlD l = some s):par 16 l = some s ∧ s.i ≤ 1048576 ∧ s.n = l.length:=by
 unfold whlD at h
 cases hp:fstD l with
 | none => simp [hp] at h
 | some t =>
  simp only [hp,Option.bind_some] at h;split at h
  ·cases h;exact ⟨(fst_some hp).1,(fst_some hp).2,by assumption⟩
  ·cases h
theorem whl_mk {l:List Nd} {s:St} (h:par 16 l = some s) (hi:s.i ≤ 1048576) (hn:s.n = l.length):whlD l = some s:=by
 unfold whlD;rw [fst_mk h hi,Option.bind_some,if_pos hn]
theorem right_some {l:List Nd} (h:rightA l = true):∃ s,whlD l = some s:=Option.isSome_iff_exists.1 h
theorem ws_some {l:List Nd} {s:St} (h:whlD l = some s):ws l = s:=by simp [ws,h]
theorem ws_none {l:List Nd} (h:whlD l = none):ws l = st0:=by simp [ws,h]
theorem fs_some {l:List Nd} {s:St} (h:fstD l = some s):fs l = s:=by simp [fs,h]
theorem fs_none {l:List Nd} (h:fstD l = none):fs l = st0:=by simp [fs,h]
end Go.Proofs.YteoogioanjkacaaGreatDoor
end
namespace Go.Proofs.YteoogioanjkacaaGreatDoor
open Go.RowKit
theorem grow_new2 (w:World) (a b:Obj):Grow w ((w.alloc a).alloc b):=(grow_new _ _).trans (grow_new _ _)
theorem grow_new3 (w:World) (a b c:Obj):Grow w (((w.alloc a).alloc b).alloc c):=(grow_new2 _ _ _).trans (grow_new _ _)
def Boxed (t:TypeId) (w:World) (b:Nat) (x y:Value):Prop:=w.heap[b]? = some (.cells #[x,y] t (0,0))
section
variable {t : TypeId} {w w' : World} {b : Nat} {x y : Value}
theorem Boxed.lt (h:Boxed t w b x y):b < w.heap.size:=by
 rcases Nat.lt_or_ge b w.heap.size with k | k
 ·exact k
 ·rw [Boxed,Array.getElem?_eq_none k] at h;cases h
theorem Boxed.grow (h:Boxed t w b x y) (hg:Grow w w'):Boxed t w' b x y:=(hg.block b h.lt).trans h
theorem Boxed.fst (h:Boxed t w b x y):w.cell? ⟨b,0,none⟩ = some x:=cell_of_row w b 0 _ t (0,0) h
theorem Boxed.snd (h:Boxed t w b x y):w.cell? ⟨b,1,none⟩ = some y:=cell_of_row w b 1 _ t (0,0) h
theorem Boxed.froz (h:Boxed t w b x y) (j:Nat):w.frozen? ⟨b,j,none⟩ = false:=frozen_of_row w b j _ t h
theorem Boxed.put0 (h:Boxed t w b x y) (v:Value):Boxed t (w.setCell ⟨b,0,none⟩ v) b v y:=heap_setCell_same w b 0 _ t v h
theorem Boxed.put1 (h:Boxed t w b x y) (v:Value):Boxed t (w.setCell ⟨b,1,none⟩ v) b x v:=heap_setCell_same w b 1 _ t v h
theorem boxed_new (w:World) (x y:Value) (t:TypeId):Boxed t (w.alloc (.cells #[x,y] t)) w.heap.size x y:=heap_alloc_new w _
theorem Boxed.other (h:Boxed t w b x y) {b':Nat} (hb:b' ≠ b) (j:Nat) (v:Value):Boxed t (w.setCell ⟨b',j,none⟩ v) b x y:=(heap_setCell_other w ⟨b',j,none⟩ b v (fun e => hb e.symm)).trans h
theorem Grow.put {b:Nat} (h:Grow w w') (hb:w.heap.size ≤ b) (j:Nat) (v:Value):Grow w (w'.setCell ⟨b,j,none⟩ v):=Below.setCell h hb v
end
open Go.RowKit Go.Lib
def Decs (w:World) (B:Nat) (A:Option Addr) (ds:List (Int × Int)):Prop :=
 0 < ds.length → ∃ b off,A = some ⟨b,off,none⟩ ∧ b < B ∧ ∀ i,i < ds.length → w.cell? ⟨b,off + i * 2,none⟩ = some (.int .i64 (ds.getD i (0,0)).1) ∧ w.cell? ⟨b,off + i * 2 + 1,none⟩ = some (.int .i64 (ds.getD i (0,0)).2)
section
variable {w w' : World} {B B' : Nat} {A : Option Addr} {ds : List (Int × Int)}
theorem Decs.keep (h:Decs w B A ds) (hk:∀ p:Addr,p.block < B → w'.cell? p = w.cell? p):Decs w' B A ds:=fun hn => by
 obtain ⟨b,off,e,hb,hc⟩:=h hn;exact ⟨b,off,e,hb,fun i hi => ⟨(hk _ hb).trans (hc i hi).1,(hk _ hb).trans (hc i hi).2⟩⟩
theorem Decs.more (h:Decs w B A ds) (hB:B ≤ B'):Decs w B' A ds:=fun hn => by
 obtain ⟨b,off,e,hb,hc⟩:=h hn;exact ⟨b,off,e,by omega,hc⟩
theorem Decs.below (h:Decs w B A ds) (hb:Below B w w'):Decs w' B A ds:=h.keep fun _ hp => hb.cell hp
theorem Decs.none_:Decs w B A []:=fun h => absurd h (by simp)
theorem Decs.grow (h:Decs w w.heap.size A ds) (hg:Grow w w'):Decs w' w'.heap.size A ds:=(h.below hg).more hg.size
end
def IsNd (w:World) (B:Nat) (A1 A2 A3:Option Addr) (n:Nd):Prop:=Nums .i64 w B A1 n.shp ∧ Nums .i64 w B A2 n.ints ∧ Decs w B A3 n.decs
section
variable {w w' : World} {B B' : Nat} {A1 A2 A3 : Option Addr} {n : Nd}
theorem IsNd.below (h:IsNd w B A1 A2 A3 n) (hb:Below B w w'):IsNd w' B A1 A2 A3 n:=⟨h.1.below hb,h.2.1.below hb,h.2.2.below hb⟩
theorem IsNd.more (h:IsNd w B A1 A2 A3 n) (hB:B ≤ B'):IsNd w B' A1 A2 A3 n:=⟨h.1.more hB,h.2.1.more hB,h.2.2.more hB⟩
theorem IsNd.grow (h:IsNd w w.heap.size A1 A2 A3 n) (hg:Grow w w'):IsNd w' w'.heap.size A1 A2 A3 n:=(h.below hg).more hg.size
end
def NodeAt (w:World) (B b o:Nat) (n:Nd):Prop :=
 ∃ A1 c1 A2 c2 A3 c3,w.cell? ⟨b,o,none⟩ = some (.int .i64 n.kind) ∧ w.cell? ⟨b,o + 1,none⟩ = some (.slice A1 n.shp.length c1) ∧ w.cell? ⟨b,o + 2,none⟩ = some (.slice A2 n.ints.length c2) ∧
  w.cell? ⟨b,o + 3,none⟩ = some (.slice A3 n.decs.length c3) ∧ IsNd w B A1 A2 A3 n
theorem NodeAt.below {w w':World} {B b o:Nat} {n:Nd} (h:NodeAt w B b o n) (hB:b < B) (hb:Below B w w'):NodeAt w' B b o n:=by
 obtain ⟨A1,c1,A2,c2,A3,c3,h0,h1,h2,h3,hn⟩:=h;have hk:∀ p:Addr,p.block < B → w'.cell? p = w.cell? p:=fun _ hp => hb.cell hp;exact ⟨A1,c1,A2,c2,A3,c3,(hk _ hB).trans h0,(hk _ hB).trans h1,(hk _ hB).trans h2,(hk _ hB).trans h3,hn.below hb⟩
theorem NodeAt.more {w:World} {B B' b o:Nat} {n:Nd} (h:NodeAt w B b o n) (hB:B ≤ B'):NodeAt w B' b o n:=by
 obtain ⟨A1,c1,A2,c2,A3,c3,h0,h1,h2,h3,hn⟩:=h;exact ⟨A1,c1,A2,c2,A3,c3,h0,h1,h2,h3,hn.more hB⟩
def Nodes (w:World) (B:Nat) (A:Option Addr) (ns:List Nd):Prop :=
 0 < ns.length → ∃ b off,A = some ⟨b,off,none⟩ ∧ b < B ∧ ∀ i,i < ns.length → NodeAt w B b (off + i * 4) (ns.getD i nd0)
section
variable {w w' : World} {B B' : Nat} {A : Option Addr} {ns : List Nd}
theorem Nodes.below (h:Nodes w B A ns) (hb:Below B w w'):Nodes w' B A ns:=fun hn => by
 obtain ⟨b,off,e,hB,hc⟩:=h hn;exact ⟨b,off,e,hB,fun i hi => (hc i hi).below hB hb⟩
theorem Nodes.more (h:Nodes w B A ns) (hB:B ≤ B'):Nodes w B' A ns:=fun hn => by
 obtain ⟨b,off,e,hb,hc⟩:=h hn;exact ⟨b,off,e,by omega,fun i hi => (hc i hi).more hB⟩
theorem Nodes.none_:Nodes w B A []:=fun h => absurd h (by simp)
theorem Nodes.grow (h:Nodes w w.heap.size A ns) (hg:Grow w w'):Nodes w' w'.heap.size A ns:=(h.below hg).more hg.size
theorem Nodes.take (h:Nodes w B A ns) (k:Nat):Nodes w B A (ns.take k):=fun hn => by
 have hl:(ns.take k).length ≤ ns.length:=by simp;omega
 obtain ⟨b,off,e,hb,hc⟩:=h (by omega)
 refine ⟨b,off,e,hb,fun i hi => ?_⟩;have:=hc i (by omega)
 have hik:i < k:=by simp at hi;omega
 have e2:(ns.take k).getD i nd0 = ns.getD i nd0:=by simp [hik]
 rw [e2];exact this
theorem Nodes.drop {b off:Nat} (h:Nodes w B (some ⟨b,off,none⟩) ns) (k:Nat):Nodes w B (some ⟨b,off + k * 4,none⟩) (ns.drop k):=fun hn => by
 rw [List.length_drop] at hn;obtain ⟨b',off',e,hb,hc⟩:=h (by omega)
 cases e
 refine ⟨b,off + k * 4,rfl,hb,fun i hi => ?_⟩;rw [List.length_drop] at hi;have:=hc (k + i) (by omega)
 have e2:(ns.drop k).getD i nd0 = ns.getD (k + i) nd0:=by simp [List.getD]
 rw [e2,show off + k * 4 + i * 4 = off + (k + i) * 4 by omega]
 exact this
theorem Nodes.none_eq (h:Nodes w B none ns):ns = []:=by
 rcases Nat.eq_zero_or_pos ns.length with h0 | h0
 ·exact List.eq_nil_of_length_eq_zero h0
 ·obtain ⟨b,off,e,_⟩:=h h0
  cases e
end
def Fit (n:Nd):Prop:=In n.kind ∧ n.shp.length ≤ 1100000 ∧ n.ints.length ≤ 1100000 ∧ n.decs.length ≤ 1100000 ∧ ∀ x ∈ n.decs,In x.1 ∧ In x.2
def Fits (ns:List Nd):Prop:=∀ n ∈ ns,Fit n
theorem Fits.take {ns:List Nd} (h:Fits ns) (k:Nat):Fits (ns.take k):=fun n hn => h n (List.mem_of_mem_take hn)
theorem Fits.drop {ns:List Nd} (h:Fits ns) (k:Nat):Fits (ns.drop k):=fun n hn => h n (List.mem_of_mem_drop hn)
theorem fit0:Fit nd0:=by
 refine ⟨⟨by decide,by decide⟩,by decide,by decide,by decide,fun x hx => by cases hx⟩
theorem Fits.at_ {ns:List Nd} (h:Fits ns) (k:Nat):Fit (ns.getD k nd0):=by
 by_cases hk:k < ns.length
 ·rw [show ns.getD k nd0 = ns[k] by simp [List.getD,hk]]
  exact h _ (List.getElem_mem hk)
 ·rw [show ns.getD k nd0 = nd0 by simp [List.getD,List.getElem?_eq_none (Nat.le_of_not_lt hk)]]
  exact fit0
theorem drop_nd {ns:List Nd} {k:Nat} (h:k < ns.length):ns.drop k = ns.getD k nd0 :: ns.drop (k + 1):=by
 rw [List.drop_eq_getElem_cons h];congr 1;simp [List.getD,h]
theorem in_at {ds:List (Int × Int)} (h:∀ x ∈ ds,In x.1 ∧ In x.2) (k:Nat):In (ds.getD k (0,0)).1 ∧ In (ds.getD k (0,0)).2:=by
 by_cases hk:k < ds.length
 ·rw [show ds.getD k (0,0) = ds[k] by simp [List.getD,hk]]
  exact h _ (List.getElem_mem hk)
 ·rw [show ds.getD k (0,0) = (0,0) by simp [List.getD,List.getElem?_eq_none (Nat.le_of_not_lt hk)]]
  exact ⟨⟨by decide,by decide⟩,⟨by decide,by decide⟩⟩
open Go.RowKit
structure Kept (S:Nat → Prop) (w w':World):Prop where
 os:w'.os = w.os
 tape:w'.tape = w.tape
 output:w'.output = w.output
 size:w.heap.size ≤ w'.heap.size
 block:∀ k,k < w.heap.size → ¬ S k → w'.heap[k]? = w.heap[k]?
theorem Kept.refl (S:Nat → Prop) (w:World):Kept S w w:=⟨rfl,rfl,rfl,Nat.le_refl _,fun _ _ _ => rfl⟩
theorem Kept.trans {S:Nat → Prop} {a b c:World} (h:Kept S a b) (k:Kept S b c):Kept S a c :=
 ⟨k.os.trans h.os,k.tape.trans h.tape,k.output.trans h.output,Nat.le_trans h.size k.size,fun i hi hs => (k.block i (Nat.lt_of_lt_of_le hi h.size) hs).trans (h.block i hi hs)⟩
theorem Kept.mono {S T:Nat → Prop} {a b:World} (h:Kept S a b) (hs:∀ k,S k → T k):Kept T a b:=⟨h.os,h.tape,h.output,h.size,fun i hi hn => h.block i hi (fun x => hn (hs i x))⟩
theorem Kept.of_grow {S:Nat → Prop} {a b:World} (h:Grow a b):Kept S a b:=⟨h.os,h.tape,h.output,h.size,fun i hi _ => h.block i hi⟩
theorem Kept.set {S:Nat → Prop} {a b:World} (h:Kept S a b) {p:Addr} (hp:S p.block) (u:Value):Kept S a (b.setCell p u) :=
 h.trans ⟨rfl,rfl,rfl,by simp [World.setCell],fun k _ hn => Below.heap_setCell _ _ _ _ (fun e => hn (e ▸ hp))⟩
theorem Kept.one {g i:Nat} {a b:World} (h:Kept (fun k => k = g) a b) (u:Value):Kept (fun k => k = g) a (b.setCell ⟨g,i,none⟩ u):=h.set (p:=⟨g,i,none⟩) rfl u
theorem Kept.alloc {S:Nat → Prop} {a b:World} (h:Kept S a b) (o:Obj):Kept S a (b.alloc o):=h.trans (Kept.of_grow (grow_new _ _))
theorem Kept.cell {S:Nat → Prop} {a b:World} (h:Kept S a b) {p:Addr} (hp:p.block < a.heap.size) (hs:¬ S p.block):b.cell? p = a.cell? p:=World.cell?_of_block (w:=a) (h.block p.block hp hs)
theorem Kept.grow {S : Nat → Prop} {w a b : World} (h : Grow w a) (k : Kept S a b) (hs : ∀ i, S i → w.heap.size ≤ i) : Grow w b :=
  ⟨k.os.trans h.os, k.tape.trans h.tape, k.output.trans h.output, Nat.le_trans h.size k.size,
   fun i hi => (k.block i (Nat.lt_of_lt_of_le hi h.size) (fun x => by have := hs i x; omega)).trans (h.block i hi)⟩
theorem keptOrd (S:Nat → Prop):Ord (Kept S):=⟨Kept.refl S,Kept.trans⟩
theorem Kept.frozen {S:Nat → Prop} {a b:World} (h:Kept S a b) {p:Addr} (hp:p.block < a.heap.size) (hs:¬ S p.block):b.frozen? p = a.frozen? p:=World.frozen?_of_block (w:=a) (h.block p.block hp hs)
open Go.RowKit Go.Lib
def Src (w:World) (A:Option Addr) (vs:List Value):Prop:=0 < vs.length → ∃ ad,A = some ad ∧ ∀ j u,vs[j]? = some u → w.cell? (ad.add j) = some u
def Ones (vs:List Value):Prop:=∀ u ∈ vs,u.oneCell' = true
theorem run_copy_whole {P:Program} (w:World) (t ty e:TypeId) (i:TypeInfo) (size:Nat) (ht:P.underlying t = some (.slice e)) (hi:P.info? e = some i) (hsz:i.size = size) (hpos:0 < size)
  (g n c:Nat) (A:Option Addr) (cur:Array Value) (te:TypeId) (vs:List Value) (hg:w.heap[g]? = some (.cells cur te (0,0))) (hv:vs.length = n * size) (hc:cur.size = n * size) (hs:Src w A vs) (h1:Ones vs) :
  (Builtin.copy_ #[t,t] ty #[.slice (some ⟨g,0,none⟩) n n,.slice A n c]).run P w = .ok (goInt n) (w.setRow g vs.toArray):=by
 have hst:=run_storeCells_at P g 0 te vs 0 cur w hg (by rw [hc,hv];omega) h1
 have hrow:(cur.toList.take (0 + 0) ++ vs ++ cur.toList.drop (0 + 0 + vs.length)).toArray = vs.toArray:=by
  have:cur.toList.drop (0 + 0 + vs.length) = []:=List.drop_eq_nil_of_le (by rw [Array.length_toList,hc,hv];omega)
  rw [this];simp
 rw [hrow] at hst;have hmin:Nat.min n n = n:=Nat.min_self n
 cases A with
 | none =>
  have:vs = []:=by
   rcases Nat.eq_zero_or_pos vs.length with h | h
   ·exact List.eq_nil_of_length_eq_zero h
   ·obtain ⟨ad,e,_⟩:=hs h;cases e
  subst this;simp [Builtin.copy_,run_underlying ht,Builtin.lenOf,Builtin.firstCells,sizeOf,typeInfo,hi,hsz,hmin,hst]
 | some ad =>
  have hl:(loadCells ad (n * size)).run P w = .ok vs.toArray w:=by
   rw [← hv];refine run_loadCells_list w ad vs ?_;intro j u hj;obtain ⟨ad',e,h⟩:=hs (by have:=(List.getElem?_eq_some_iff.1 hj).1;omega)
   cases e
   exact h j u hj
  simp [Builtin.copy_,run_underlying ht,Builtin.lenOf,Builtin.firstCells,sizeOf,typeInfo,hi,hsz,hmin,hl,hst]
theorem wpList_copy_whole {P:Program} {w:World} {ops:Array Oper} {rest:List Oper} {o:Oper} {a:Act} {Q:Exit → Act → World → Prop} (hgd:o.guard = none) (d s:Operand) (t e:TypeId)
  (ho:o.op = .call { callee:=.builtin .copy,args:=#[d,s],argTypes:=#[t,t] }) (i:TypeInfo) (size:Nat) (ht:P.underlying t = some (.slice e)) (hi:P.info? e = some i) (hsz:i.size = size) (hpos:0 < size)
  (g n c:Nat) (A:Option Addr) (hd:a.eval d = .slice (some ⟨g,0,none⟩) n n) (hs:a.eval s = .slice A n c) (cur:Array Value) (te:TypeId) (hg:w.heap[g]? = some (.cells cur te (0,0)))
  (vs:List Value) (hv:vs.length = n * size) (hc:cur.size = n * size) (hsrc:Src w A vs) (h1:Ones vs)
  (h:∀ w',Hid (w'.heap[g]? = some (.cells vs.toArray te (0,0))) → Hid (Below g w w') → Hid (w'.heap.size = w.heap.size) → wpList P ops Q rest (a.put o.dst (goInt n)) w'):wpList P ops Q (o :: rest) a w:=by
 refine wpList_plain hgd fun K hK => ?_;have hrun:=run_copy_whole (P:=P) w t o.type e i size ht hi hsz hpos g n c A cur te vs hg hv hc hsrc h1;unfold Oper.wp;simp [execOp,ho,resolve,invoke,builtin,hd,hs,hrun,Result.andThen];exact hK _ _ (h _ (Hh (setRow_heap w g cur _ te _ hg)) (Hh (below_setRow (Below.refl g w) (Nat.le_refl _) _)) (Hh (by simp [World.setRow])))
def FreshP (t:TypeId) (vs:List Value) (n:Nat) (w:World) (e:Ending) (w':World):Prop :=
 e = .returned (.slice (some ⟨w.heap.size,0,none⟩) n n) ∧ Grow w w' ∧ w'.heap.size = w.heap.size + 1 ∧ w'.heap[w.heap.size]? = some (.cells vs.toArray t (0,0))
theorem info_of {P:Program} {e:TypeId} {z:Value} {size bytes:Nat} (h:(P.info? e).map (fun i => (i.zero,i.size,i.bytes)) = some (some z,size,bytes)):∃ i,P.info? e = some i ∧ i.zero = some z ∧ i.size = size ∧ i.bytes = bytes:=by
 obtain ⟨i,hi,hz⟩:=Option.map_eq_some_iff.1 h;simp only [Prod.mk.injEq] at hz;exact ⟨i,hi,hz.1,hz.2.1,hz.2.2⟩
theorem make_of {P:Program} {t e:TypeId} {z:Value} {size bytes:Nat} (ht:P.underlying t = some (.slice e)) (h:(P.info? e).map (fun i => (i.zero,i.size,i.bytes)) = some (some z,size,bytes)) (n:Nat) (hb:bytes * n ≤ 281474976710656) (hn:n ≤ 9223372036854775807) :
  ∃ cur:Array Value,cur.size = n * size ∧ ∀ W:World,(Instr.makeSlice t (.int .i64 (n:Nat)) (.int .i64 (n:Nat))).run P W = .ok (.slice (some ⟨W.heap.size,0,none⟩) n n) (W.alloc (.cells cur e)):=by
 obtain ⟨i,hi,hz,hs,hby⟩:=info_of h;refine ⟨madeCells z.cells (n * size),size_madeCells _ _,fun W => ?_⟩;have hb':(i.bytes:Int) * ((n:Nat):Int) ≤ 281474976710656:=by
  have h:((i.bytes * n:Nat):Int) ≤ 281474976710656:=by rw [hby];omega
  rwa [Int.natCast_mul] at h
 have hr:=run_make (P:=P) W t e i z ht hi hz .i64 .i64 n n (by omega) (Int.le_refl _) hb' (by omega)
 simp only [Int.toNat_natCast,hs] at hr;exact hr
theorem info_int:(Tryz.prog.info? 3).map (fun i => (i.zero,i.size,i.bytes)) = some (some (.int .i64 0),1,8):=by kernel_rfl
theorem info_dec:(Tryz.prog.info? 41).map (fun i => (i.zero,i.size,i.bytes)) = some (some (.agg #[.int .i64 0,.int .i64 0]),2,16):=by kernel_rfl
theorem info_node:(Tryz.prog.info? 34).map (fun i => (i.zero,i.size,i.bytes)) = some (some (.agg #[.int .i64 0,.slice none 0 0,.slice none 0 0,.slice none 0 0]),4,80):=by kernel_rfl
theorem info_row:(Tryz.prog.info? 22).map (fun i => (i.zero,i.size,i.bytes)) = some (some (.slice none 0 0),1,24):=by kernel_rfl
theorem freshi_any (A:Option Addr) (n c:Nat) (vs:List Value) (w:World) (hn:n ≤ 1100000) (hv:vs.length = n * 1) (h1:Ones vs) (hs:Src w A vs) :
  Calls Tryz.prog 76 #[.slice A n c] w (FreshP 3 vs n w):=by
 obtain ⟨i,hi,_,hsz,_⟩:=info_of info_int;obtain ⟨cur,hcur,hmk⟩:=make_of (P:=Tryz.prog) Tryz.underlying31 info_int n (by omega) (by omega)
 have HS:Hid (Src (w.alloc (.cells cur 3)) A vs):=Hh (fun hp => by
  obtain ⟨ad,e,h⟩:=hs hp
  exact ⟨ad,e,fun j u hj => by
   have h0:=h j u hj;rw [← h0]
   exact (grow_new w (.cells cur 3)).cell (block_lt_of_cell h0)⟩)
 have HV:=Hh hv;have HC:=Hh hcur;have H1:=Hh h1;clear hs hv hcur h1;have HN:=Hh (heap_alloc_new w (.cells cur 3))
 go_enter Tryz.func76,Tryz.ntmps76
 go_wp2_with (refine wpList_copy_whole rfl _ _ 31 3 rfl i 1 Tryz.underlying31 hi hsz (by decide) w.heap.size n c A rfl rfl cur 3 HN.out vs HV.out HC.out HS.out H1.out ?_;intro w2 HW2 HB2 HZ2)
 go_ret;exact ⟨rfl,⟨HB2.out.os,HB2.out.tape,HB2.out.output,by rw [HZ2.out];simp,fun k hk => (HB2.out.block k hk).trans ((grow_new w (.cells cur 3)).block k hk)⟩,by rw [HZ2.out];simp,HW2.out⟩
theorem freshd_any (A:Option Addr) (n c:Nat) (vs:List Value) (w:World) (hn:n ≤ 1100000) (hv:vs.length = n * 2) (h1:Ones vs) (hs:Src w A vs) :
  Calls Tryz.prog 77 #[.slice A n c] w (FreshP 41 vs n w):=by
 obtain ⟨i,hi,_,hsz,_⟩:=info_of info_dec;obtain ⟨cur,hcur,hmk⟩:=make_of (P:=Tryz.prog) Tryz.underlying32 info_dec n (by omega) (by omega)
 have HS:Hid (Src (w.alloc (.cells cur 41)) A vs):=Hh (fun hp => by
  obtain ⟨ad,e,h⟩:=hs hp
  exact ⟨ad,e,fun j u hj => by
   have h0:=h j u hj;rw [← h0]
   exact (grow_new w (.cells cur 41)).cell (block_lt_of_cell h0)⟩)
 have HV:=Hh hv;have HC:=Hh hcur;have H1:=Hh h1;clear hs hv hcur h1;have HN:=Hh (heap_alloc_new w (.cells cur 41))
 go_enter Tryz.func77,Tryz.ntmps77
 go_wp2_with (refine wpList_copy_whole rfl _ _ 32 41 rfl i 2 Tryz.underlying32 hi hsz (by decide) w.heap.size n c A rfl rfl cur 41 HN.out vs HV.out HC.out HS.out H1.out ?_;intro w2 HW2 HB2 HZ2)
 go_ret;exact ⟨rfl,⟨HB2.out.os,HB2.out.tape,HB2.out.output,by rw [HZ2.out];simp,fun k hk => (HB2.out.block k hk).trans ((grow_new w (.cells cur 41)).block k hk)⟩,by rw [HZ2.out];simp,HW2.out⟩
theorem freshn_any (A:Option Addr) (n c:Nat) (vs:List Value) (w:World) (hn:n ≤ 1100000) (hv:vs.length = n * 4) (h1:Ones vs) (hs:Src w A vs) :
  Calls Tryz.prog 75 #[.slice A n c] w (FreshP 34 vs n w):=by
 obtain ⟨i,hi,_,hsz,_⟩:=info_of info_node;obtain ⟨cur,hcur,hmk⟩:=make_of (P:=Tryz.prog) Tryz.underlying22 info_node n (by omega) (by omega)
 have HS:Hid (Src (w.alloc (.cells cur 34)) A vs):=Hh (fun hp => by
  obtain ⟨ad,e,h⟩:=hs hp
  exact ⟨ad,e,fun j u hj => by
   have h0:=h j u hj;rw [← h0]
   exact (grow_new w (.cells cur 34)).cell (block_lt_of_cell h0)⟩)
 have HV:=Hh hv;have HC:=Hh hcur;have H1:=Hh h1;clear hs hv hcur h1;have HN:=Hh (heap_alloc_new w (.cells cur 34))
 go_enter Tryz.func75,Tryz.ntmps75
 go_wp2_with (refine wpList_copy_whole rfl _ _ 22 34 rfl i 4 Tryz.underlying22 hi hsz (by decide) w.heap.size n c A rfl rfl cur 34 HN.out vs HV.out HC.out HS.out H1.out ?_;intro w2 HW2 HB2 HZ2)
 go_ret;exact ⟨rfl,⟨HB2.out.os,HB2.out.tape,HB2.out.output,by rw [HZ2.out];simp,fun k hk => (HB2.out.block k hk).trans ((grow_new w (.cells cur 34)).block k hk)⟩,by rw [HZ2.out];simp,HW2.out⟩
open Go.RowKit Go.Lib
def ivs (xs:List Int):List Value:=xs.map fun x => .int .i64 x
def dvs (ds:List (Int × Int)):List Value:=ds.flatMap fun x => [.int .i64 x.1,.int .i64 x.2]
theorem ivs_len (xs:List Int):(ivs xs).length = xs.length * 1:=by simp [ivs]
theorem dvs_len (ds:List (Int × Int)):(dvs ds).length = ds.length * 2:=by
 induction ds with
 | nil => rfl
 | cons x ds ih => simp only [dvs,List.flatMap_cons,List.length_append,List.length_cons,List.length_nil] at ih ⊢;omega
theorem ivs_one (xs:List Int):Ones (ivs xs):=fun u hu => by
 obtain ⟨x,_,rfl⟩:=List.mem_map.1 hu;rfl
theorem dvs_one (ds:List (Int × Int)):Ones (dvs ds):=fun u hu => by
 obtain ⟨x,_,hx⟩:=List.mem_flatMap.1 hu;simp only [List.mem_cons,List.not_mem_nil,or_false] at hx
 rcases hx with rfl | rfl <;> rfl
theorem dvs_get (ds:List (Int × Int)):∀ i,i < ds.length → (dvs ds)[i * 2]? = some (.int .i64 (ds.getD i (0,0)).1) ∧ (dvs ds)[i * 2 + 1]? = some (.int .i64 (ds.getD i (0,0)).2):=by
 induction ds with
 | nil => intro i hi;simp at hi
 | cons x ds ih =>
  intro i hi
  cases i with
  | zero => simp [dvs]
  | succ i =>
   have:=ih i (by simpa using hi)
   simp only [dvs,List.flatMap_cons] at this ⊢;rw [show (i + 1) * 2 = i * 2 + 1 + 1 by omega]
   simpa using this
theorem addr_add (b off j:Nat):(⟨b,off,none⟩:Addr).add j = ⟨b,off + j,none⟩:=by unfold Addr.add;split <;> simp_all
theorem src_nums {w:World} {B:Nat} {A:Option Addr} {xs:List Int} (h:Nums .i64 w B A xs):Src w A (ivs xs):=fun hp => by
 rw [ivs_len,Nat.mul_one] at hp;obtain ⟨b,off,rfl,_,hc⟩:=h hp;refine ⟨_,rfl,fun j u hj => ?_⟩;have hl:j < xs.length:=by
  have:=(List.getElem?_eq_some_iff.1 hj).1;rw [ivs_len] at this;omega
 rw [addr_add,hc j hl,← hj];simp [ivs,hl]
theorem src_decs {w:World} {B:Nat} {A:Option Addr} {ds:List (Int × Int)} (h:Decs w B A ds):Src w A (dvs ds):=fun hp => by
 rw [dvs_len] at hp;obtain ⟨b,off,rfl,_,hc⟩:=h (by omega)
 refine ⟨_,rfl,fun j u hj => ?_⟩;have hl:j / 2 < ds.length:=by
  have:=(List.getElem?_eq_some_iff.1 hj).1;rw [dvs_len] at this;omega
 rw [addr_add,← hj];obtain ⟨h1,h2⟩:=hc (j / 2) hl;obtain ⟨g1,g2⟩:=dvs_get ds (j / 2) hl
 rcases Nat.mod_two_eq_zero_or_one j with h0 | h0
 ·rw [show j / 2 * 2 = j by omega] at h1 g1
  rw [h1,g1]
 ·rw [show off + j / 2 * 2 + 1 = off + j by omega] at h2
  rw [show j / 2 * 2 + 1 = j by omega] at g2
  rw [h2,g2]
theorem nums_cells {w:World} {g:Nat} {t:TypeId} {xs:List Int} (h:w.heap[g]? = some (.cells (ivs xs).toArray t (0,0))):Nums .i64 w w.heap.size (some ⟨g,0,none⟩) xs:=fun _ => by
 refine ⟨g,0,rfl,?_,fun i hi => ?_⟩
 ·rcases Nat.lt_or_ge g w.heap.size with k | k
  ·exact k
  ·rw [Array.getElem?_eq_none k] at h;cases h
 ·rw [Nat.zero_add,cell_of_row w g i _ t (0,0) h]
  simp [ivs,hi]
theorem decs_cells {w:World} {g:Nat} {t:TypeId} {ds:List (Int × Int)} (h:w.heap[g]? = some (.cells (dvs ds).toArray t (0,0))):Decs w w.heap.size (some ⟨g,0,none⟩) ds:=fun _ => by
 refine ⟨g,0,rfl,?_,fun i hi => ?_⟩
 ·rcases Nat.lt_or_ge g w.heap.size with k | k
  ·exact k
  ·rw [Array.getElem?_eq_none k] at h;cases h
 ·obtain ⟨g1,g2⟩:=dvs_get ds i hi
  rw [Nat.zero_add,cell_of_row w g _ _ t (0,0) h,cell_of_row w g _ _ t (0,0) h];exact ⟨by simpa using g1,by simpa using g2⟩
def OwnN (w:World) (g:Nat) (f:Nat → Value) (i:Nat) (n:Nd):Prop :=
 ∃ b1 b2 b3,g < b1 ∧ g < b2 ∧ g < b3 ∧ f (i * 4) = .int .i64 n.kind ∧ f (i * 4 + 1) = .slice (some ⟨b1,0,none⟩) n.shp.length n.shp.length ∧ f (i * 4 + 2) = .slice (some ⟨b2,0,none⟩) n.ints.length n.ints.length ∧
  f (i * 4 + 3) = .slice (some ⟨b3,0,none⟩) n.decs.length n.decs.length ∧ w.heap[b1]? = some (.cells (ivs n.shp).toArray 3 (0,0)) ∧ w.heap[b2]? = some (.cells (ivs n.ints).toArray 3 (0,0)) ∧
  w.heap[b3]? = some (.cells (dvs n.decs).toArray 41 (0,0))
theorem heap_lt {w:World} {g:Nat} {o:Obj} (h:w.heap[g]? = some o):g < w.heap.size:=by
 rcases Nat.lt_or_ge g w.heap.size with k | k
 ·exact k
 ·rw [Array.getElem?_eq_none k] at h;cases h
theorem OwnN.kept {w w':World} {g:Nat} {f f':Nat → Value} {i:Nat} {n:Nd} (h:OwnN w g f i n) (hk:Kept (fun k => k = g) w w') (hf:∀ j,i * 4 ≤ j → j < i * 4 + 4 → f' j = f j):OwnN w' g f' i n:=by
 obtain ⟨b1,b2,b3,g1,g2,g3,h0,h1,h2,h3,r1,r2,r3⟩:=h;refine ⟨b1,b2,b3,g1,g2,g3,by rw [hf _ (by omega) (by omega),h0],by rw [hf _ (by omega) (by omega),h1],by rw [hf _ (by omega) (by omega),h2],by rw [hf _ (by omega) (by omega),h3],?_,?_,?_⟩
 ·exact (hk.block b1 (heap_lt r1) (by show ¬ b1 = g;omega)).trans r1
 ·exact (hk.block b2 (heap_lt r2) (by show ¬ b2 = g;omega)).trans r2
 ·exact (hk.block b3 (heap_lt r3) (by show ¬ b3 = g;omega)).trans r3
def Copied (w:World) (g:Nat) (ns:List Nd):Prop:=∃ f,w.rowIs g 34 (ns.length * 4) f ∧ ∀ i,i < ns.length → OwnN w g f i (ns.getD i nd0)
def rawN (w:World) (b off n:Nat):List Value:=(List.range (n * 4)).map fun j => (w.cell? ⟨b,off + j,none⟩).getD undef
theorem rawN_len (w:World) (b off n:Nat):(rawN w b off n).length = n * 4:=by simp [rawN]
theorem rawN_get {w:World} {b off n j:Nat} (hj:j < n * 4):(rawN w b off n)[j]? = some ((w.cell? ⟨b,off + j,none⟩).getD undef):=by simp [rawN,hj]
theorem raw_cell {w:World} {B b off:Nat} {ns:List Nd} (hc:∀ i,i < ns.length → NodeAt w B b (off + i * 4) (ns.getD i nd0)) {j:Nat} (hj:j < ns.length * 4):∃ v,w.cell? ⟨b,off + j,none⟩ = some v ∧ v.oneCell' = true:=by
 obtain ⟨A1,c1,A2,c2,A3,c3,h0,h1,h2,h3,_⟩:=hc (j / 4) (by omega)
 have h4:j % 4 = 0 ∨ j % 4 = 1 ∨ j % 4 = 2 ∨ j % 4 = 3:=by omega
 rcases h4 with h4 | h4 | h4 | h4
 ·exact ⟨_,by rw [show off + j = off + j / 4 * 4 by omega];exact h0,rfl⟩
 ·exact ⟨_,by rw [show off + j = off + j / 4 * 4 + 1 by omega];exact h1,rfl⟩
 ·exact ⟨_,by rw [show off + j = off + j / 4 * 4 + 2 by omega];exact h2,rfl⟩
 ·exact ⟨_,by rw [show off + j = off + j / 4 * 4 + 3 by omega];exact h3,rfl⟩
theorem src_nodes {w:World} {B:Nat} {A:Option Addr} {ns:List Nd} (h:Nodes w B A ns):∃ vs,vs.length = ns.length * 4 ∧ Ones vs ∧ Src w A vs ∧ ∀ b off,A = some ⟨b,off,none⟩ → ∀ j,j < ns.length * 4 → ∃ v,vs[j]? = some v ∧ w.cell? ⟨b,off + j,none⟩ = some v:=by
 rcases Nat.eq_zero_or_pos ns.length with h0 | h0
 ·exact ⟨[],by simp [h0],(fun u hu => by cases hu),(fun hp => by simp at hp),fun b off _ j hj => by omega⟩
 ·obtain ⟨b,off,rfl,hb,hc⟩:=h h0
  refine ⟨rawN w b off ns.length,rawN_len _ _ _ _,fun u hu => ?_,fun _ => ⟨_,rfl,fun j u hj => ?_⟩,fun b' off' e j hj => ?_⟩
  ·obtain ⟨j,hj,rfl⟩:=List.mem_map.1 hu
   obtain ⟨v,hv,h1⟩:=raw_cell hc (List.mem_range.1 hj);rw [hv];exact h1
  ·have hl:j < ns.length * 4:=by
    have:=(List.getElem?_eq_some_iff.1 hj).1
    rwa [rawN_len] at this
   rw [rawN_get hl] at hj;obtain ⟨v,hv,_⟩:=raw_cell hc hl;rw [addr_add,hv];rw [hv] at hj;exact hj
  ·cases e
   obtain ⟨v,hv,_⟩:=raw_cell hc hj;exact ⟨v,by rw [rawN_get hj,hv];rfl,hv⟩
theorem row_of_cells {w:World} {g:Nat} {t:TypeId} {vs:List Value} {m:Nat} (h:w.heap[g]? = some (.cells vs.toArray t (0,0))) (hl:vs.length = m):w.rowIs g t m (fun j => vs.getD j undef) :=
 ⟨vs.toArray,h,by simpa using hl,fun i hi => by simp [List.getD,hl ▸ hi]⟩
def CopyP (ns:List Nd) (n:Nat) (w:World) (e:Ending) (w':World):Prop :=
 e = .returned (.slice (some ⟨w.heap.size,0,none⟩) n n) ∧ Copied w' w.heap.size ns ∧ Grow w w'
theorem copy_any (A:Option Addr) (n c:Nat) (ns:List Nd) (w:World) (hn:ns.length = n) (hnb:n ≤ 1100000) (hf:Fits ns) (hns:Nodes w w.heap.size A ns) :
  Calls Tryz.prog 36 #[.slice A n c] w (CopyP ns n w):=by
 obtain ⟨vs,hvl,hv1,hvs,hvc⟩:=src_nodes hns;rw [hn] at hvl hvc;have HF:=Hh hf;have HNS:=Hh hns;have HN:=Hh hn;have HVL:=Hh hvl;have HVC:=Hh hvc;have HC:=Hh (freshn_any A n c vs w hnb hvl hv1 hvs);clear hf hns hn hvl hvc hvs hv1;obtain ⟨g,hg⟩:∃ g,w.heap.size = g:=⟨_,rfl⟩;unfold FreshP at HC;rw [hg] at HC;have HG:=Hh hg;clear hg
 go_enter Tryz.func36,Tryz.ntmps36
 go_wp2_with fail;refine (HC.out).mono ?_;rintro e w1 ⟨rfl,hg1,hz1,hr1⟩;have HG1:=Hh hg1;have HZ1:=Hh hz1;have HR1:=Hh (row_of_cells hr1 HVL.out);clear hg1 hz1 hr1 HC;go_wp2
 go_loopg [10] n (fun gk s10 wr => ∃ (k:Nat) (f:Nat → Value),k ≤ n ∧ gk = n - k ∧ s10 = .int .i64 (k:Nat) ∧ Hid (wr.rowIs g 34 (n * 4) f) ∧ Hid (∀ i,i < k → OwnN wr g f i (ns.getD i nd0)) ∧
  Hid (∀ j,k * 4 ≤ j → j < n * 4 → f j = vs.getD j undef) ∧ Hid (Grow w wr))
 case atStart => exact ⟨0,_,Nat.zero_le _,rfl,rfl,HR1,Hh (fun i hi => absurd hi (by omega)),Hh (fun _ _ _ => rfl),HG1⟩
 case round =>
  obtain ⟨k,f,hk,rfl,rfl,HR,HO,HE,HGR⟩:=hrel
  by_cases hlt:k < n
  ·have hlti:((k:Nat):Int) < ((n:Nat):Int):=by omega
   have hkl:k < ns.length:=by rw [HN.out];exact hlt
   obtain ⟨b,off,rfl,hb,hat⟩:=HNS.out (by omega)
   obtain ⟨A1,c1,A2,c2,A3,c3,p0,p1,p2,p3,hnd⟩:=hat k hkl;have HND:=Hh (hnd.grow HGR.out);have HFIT:=Hh (HF.out.at_ k);have cell:∀ j v,k * 4 ≤ j → j < n * 4 → w.cell? ⟨b,off + j,none⟩ = some v → wr.cell? ⟨g,j,none⟩ = some v:=fun j v h1 h2 h3 => by
    rw [HR.out.cell h2,HE.out j h1 h2];obtain ⟨u,hu,hc⟩:=HVC.out b off rfl j h2;rw [h3] at hc
    cases hc
    simp [List.getD,hu]
   have q0:=cell (k * 4) _ (by omega) (by omega) p0
   have q1:=cell (k * 4 + 1) _ (by omega) (by omega) p1
   have q2:=cell (k * 4 + 2) _ (by omega) (by omega) p2
   have q3:=cell (k * 4 + 3) _ (by omega) (by omega) p3
   clear cell hat hnd p0 p1 p2 p3 hb;obtain ⟨nd,hnd⟩:∃ nd,ns.getD k nd0 = nd:=⟨_,rfl⟩;rw [hnd] at HND HFIT q0 q1 q2 q3;have HNDE:=Hh hnd;clear hnd;have HSZ:=Hh (show g < wr.heap.size from HR.out.lt);have hl1:=HFIT.out.2.1;have hl2:=HFIT.out.2.2.1;have hl3:=HFIT.out.2.2.2.1;obtain ⟨B0,hB0⟩:∃ B0,wr.heap.size = B0:=⟨_,rfl⟩;have HB0:=Hh hB0;have f0:=HR.out.frozen (k * 4);have f1:=HR.out.frozen (k * 4 + 1);have f2:=HR.out.frozen (k * 4 + 2);have f3:=HR.out.frozen (k * 4 + 3);clear hB0;go_wp2;generalize hw2:World.alloc wr _ = w2;have HK2:=Hh (show Grow wr w2 by rw [← hw2];exact grow_new _ _)
   have HBX:=Hh (show w2.heap[wr.heap.size]? = some (.cells #[.int .i64 nd.kind,.slice A1 nd.shp.length c1,.slice A2 nd.ints.length c2,.slice A3 nd.decs.length c3] 34 (0,0)) by rw [← hw2];exact heap_alloc_new _ _)
   clear hw2 q0 q1 q2 q3 f0 f1 f2 f3;refine wp_region_R ((Kept (fun k => k = g))) (n:=16) rfl (by kernel_rfl) ?_
   intro W0 hW0e hW0;have HW0:=Hh hW0;have hbx:∀ wg,Kept (fun k => k = g) W0 wg → wg.heap[wr.heap.size]? = some (.cells #[.int .i64 nd.kind,.slice A1 nd.shp.length c1,.slice A2 nd.ints.length c2,.slice A3 nd.decs.length c3] 34 (0,0)):=fun wg h => by
    have h1:=heap_lt HBX.out;have h2:=HSZ.out;have h3:=HW0.out.size;rw [h.block wr.heap.size (by omega) (by show ¬ wr.heap.size = g;omega),HW0.out.block wr.heap.size h1]
    exact HBX.out
   have b0:∀ wg,Kept (fun k => k = g) W0 wg → wg.cell? ⟨wr.heap.size,0,none⟩ = some (.int .i64 nd.kind):=fun wg h => cell_of_row wg _ 0 _ _ (0,0) (hbx wg h);have b1:∀ wg,Kept (fun k => k = g) W0 wg → wg.cell? ⟨wr.heap.size,1,none⟩ = some (.slice A1 nd.shp.length c1):=fun wg h => cell_of_row wg _ 1 _ _ (0,0) (hbx wg h);have b2:∀ wg,Kept (fun k => k = g) W0 wg → wg.cell? ⟨wr.heap.size,2,none⟩ = some (.slice A2 nd.ints.length c2):=fun wg h => cell_of_row wg _ 2 _ _ (0,0) (hbx wg h);have b3:∀ wg,Kept (fun k => k = g) W0 wg → wg.cell? ⟨wr.heap.size,3,none⟩ = some (.slice A3 nd.decs.length c3):=fun wg h => cell_of_row wg _ 3 _ _ (0,0) (hbx wg h);have HGW:=Hh (HK2.out.trans HW0.out);clear hbx;clear hW0e;refine wpR_take (keptOrd (fun k => k = g)) (i:=0) (v:=?vf1) rfl (by kernel_rfl) (by kernel_rfl) (by kernel_rfl) (fun _ _ _ h => h) (by rfl) ?hf1 ?rf1
   case hf1 => (intro wg hSw;go_simp <;> with_reducible rfl)
   simp only [Act.put,List.setIfInBounds_toArray,List.set_cons_zero,List.set_cons_succ];refine wpR_take (keptOrd (fun k => k = g)) (i:=1) (v:=?vf2) rfl (by kernel_rfl) (by kernel_rfl) (by kernel_rfl) (fun _ _ _ h => h) (by rfl) ?hf2 ?rf2
   case hf2 => (intro wg hSw;go_simp <;> with_reducible rfl)
   simp only [Act.put,List.setIfInBounds_toArray,List.set_cons_zero,List.set_cons_succ];refine wpR_take (keptOrd (fun k => k = g)) (i:=2) (v:=?vf3) rfl (by kernel_rfl) (by kernel_rfl) (by kernel_rfl) (fun _ _ _ h => h) (by rfl) ?hf3 ?rf3
   case hf3 => (intro wg hSw;go_simp <;> with_reducible rfl)
   simp only [Act.put,List.setIfInBounds_toArray,List.set_cons_zero,List.set_cons_succ];refine wpR_take (keptOrd (fun k => k = g)) (i:=3) (v:=?vf4) rfl (by kernel_rfl) (by kernel_rfl) (by kernel_rfl) (fun _ _ _ h => h) (by rfl) ?hf4 ?rf4
   case hf4 => (intro wg hSw;go_simp <;> with_reducible rfl)
   simp only [Act.put,List.setIfInBounds_toArray,List.set_cons_zero,List.set_cons_succ];refine wpR_take (keptOrd (fun k => k = g)) (i:=4) (v:=?vf5) rfl (by kernel_rfl) (by kernel_rfl) (by kernel_rfl) (fun _ _ _ h => h) (by rfl) ?hf5 ?rf5
   case hf5 => (intro wg hSw;go_simp <;> with_reducible rfl)
   simp only [Act.put,List.setIfInBounds_toArray,List.set_cons_zero,List.set_cons_succ];refine wpR_take (keptOrd (fun k => k = g)) (i:=5) (v:=?vf6) rfl (by kernel_rfl) (by kernel_rfl) (by kernel_rfl) (fun _ _ _ h => h) (by rfl) ?hf6 ?rf6
   case hf6 => (intro wg hSw;go_simp <;> with_reducible rfl)
   simp only [Act.put,List.setIfInBounds_toArray,List.set_cons_zero,List.set_cons_succ];refine wpR_take (keptOrd (fun k => k = g)) (i:=7) (v:=?vf7) rfl (by kernel_rfl) (by kernel_rfl) (by kernel_rfl) (fun _ _ _ h => h) (by rfl) ?hf7 ?rf7
   case hf7 => (intro wg hSw;go_simp <;> with_reducible rfl)
   simp only [Act.put,List.setIfInBounds_toArray,List.set_cons_zero,List.set_cons_succ];refine wpR_take (keptOrd (fun k => k = g)) (i:=8) (v:=?vf8) rfl (by kernel_rfl) (by kernel_rfl) (by kernel_rfl) (fun _ _ _ h => h) (by rfl) ?hf8 ?rf8
   case hf8 => (intro wg hSw;go_simp <;> with_reducible rfl)
   simp only [Act.put,List.setIfInBounds_toArray,List.set_cons_zero,List.set_cons_succ];refine wpR_take (keptOrd (fun k => k = g)) (i:=10) (v:=?vf9) rfl (by kernel_rfl) (by kernel_rfl) (by kernel_rfl) (fun _ _ _ h => h) (by rfl) ?hf9 ?rf9
   case hf9 => (intro wg hSw;go_simp <;> with_reducible rfl)
   simp only [Act.put,List.setIfInBounds_toArray,List.set_cons_zero,List.set_cons_succ];refine wpR_take (keptOrd (fun k => k = g)) (i:=11) (v:=?vf10) rfl (by kernel_rfl) (by kernel_rfl) (by kernel_rfl) (fun _ _ _ h => h) (by rfl) ?hf10 ?rf10
   case hf10 => (intro wg hSw;go_simp <;> with_reducible rfl)
   simp only [Act.put,List.setIfInBounds_toArray,List.set_cons_zero,List.set_cons_succ];refine wpR_one (i:=6) (by kernel_rfl) ?_
   refine wpR_op (i:=6) rfl (by rfl) (fun K hK => ?_)
   go_simp;refine (freshi_any A1 nd.shp.length c1 (ivs nd.shp) _ hl1 (ivs_len _) (ivs_one _) (src_nums (HND.out.grow HGW.out).1)).mono ?_;rintro e wM6 ⟨rfl,hg6,hz6,hr6⟩;have HG6:=Hh (HGW.out.trans hg6);have HR6:=Hh hr6;have HW6:=Hh (HGW.out.size);have hM6:Kept (fun k => k = g) W0 wM6:=Kept.of_grow hg6;clear hg6 hz6 hr6;refine hK.out _ _ hM6 ?_;clear hK K
   try simp only [Act.put,List.setIfInBounds_toArray,List.set_cons_zero,List.set_cons_succ]
   refine wpR_one (i:=9) (by kernel_rfl) ?_
   refine wpR_op (i:=9) rfl (by rfl) (fun K hK => ?_)
   go_simp;refine (freshi_any A2 nd.ints.length c2 (ivs nd.ints) _ hl2 (ivs_len _) (ivs_one _) (src_nums (HND.out.grow HG6.out).2.1)).mono ?_;rintro e wM9 ⟨rfl,hg9,hz9,hr9⟩;have HG9:=Hh (HG6.out.trans hg9);have HR9:=Hh hr9;have HW9:=Hh HG6.out.size;have HR6':=Hh ((hg9.block _ (heap_lt HR6.out)).trans HR6.out);have hM9:Kept (fun k => k = g) wM6 wM9:=Kept.of_grow hg9;clear hg9 hz9 hr9;refine hK.out _ _ hM9 ?_;clear hK K
   try simp only [Act.put,List.setIfInBounds_toArray,List.set_cons_zero,List.set_cons_succ]
   refine wpR_one (i:=12) (by kernel_rfl) ?_
   refine wpR_op (i:=12) rfl (by rfl) (fun K hK => ?_)
   go_simp;refine (freshd_any A3 nd.decs.length c3 (dvs nd.decs) _ hl3 (dvs_len _) (dvs_one _) (src_decs (HND.out.grow HG9.out).2.2)).mono ?_;rintro e wM12 ⟨rfl,hg12,hz12,hr12⟩;have HG12:=Hh (HG9.out.trans hg12);have HR12:=Hh hr12;have HW12:=Hh HG9.out.size;have HR6'':=Hh ((hg12.block _ (heap_lt HR6'.out)).trans HR6'.out);have HR9':=Hh ((hg12.block _ (heap_lt HR9.out)).trans HR9.out);have hM12:Kept (fun k => k = g) wM9 wM12:=Kept.of_grow hg12;have HROW:=Hh (HR.out.of_block (HG12.out.block g HSZ.out));have f0:=HROW.out.frozen (k * 4);have f1:=HROW.out.frozen (k * 4 + 1);have f2:=HROW.out.frozen (k * 4 + 2);have f3:=HROW.out.frozen (k * 4 + 3);have q0:=HROW.out.cell (i:=k * 4) (by omega)
   have q1:=HROW.out.cell (i:=k * 4 + 1) (by omega)
   have q2:=HROW.out.cell (i:=k * 4 + 2) (by omega)
   have q3:=HROW.out.cell (i:=k * 4 + 3) (by omega)
   clear hg12 hz12 hr12;refine hK.out _ _ hM12 ?_;clear hK K
   try simp only [Act.put,List.setIfInBounds_toArray,List.set_cons_zero,List.set_cons_succ]
   refine wpR_take (keptOrd (fun k => k = g)) (i:=13) (v:=?vf11) rfl (by kernel_rfl) (by kernel_rfl) (by kernel_rfl) (fun _ _ _ h => h) (by rfl) ?hf11 ?rf11
   case hf11 => (intro wg hSw;go_simp <;> with_reducible rfl)
   simp only [Act.put,List.setIfInBounds_toArray,List.set_cons_zero,List.set_cons_succ];refine wpR_take (keptOrd (fun k => k = g)) (i:=14) (v:=?vf12) rfl (by kernel_rfl) (by kernel_rfl) (by kernel_rfl) (fun _ _ _ h => h) (by rfl) ?hf12 ?rf12
   case hf12 => (intro wg hSw;go_simp <;> with_reducible rfl)
   simp only [Act.put,List.setIfInBounds_toArray,List.set_cons_zero,List.set_cons_succ];refine wpR_one (i:=15) (by kernel_rfl) ?_
   refine wpR_op (i:=15) rfl (by rfl) (fun K hK => ?_)
   go_simp;refine hK.out _ _ ?_ ?_
   ·exact (((Kept.refl _ _).one _).one _).one _ |>.one _
   clear hK K
   try simp only [Act.put,List.setIfInBounds_toArray,List.set_cons_zero,List.set_cons_succ]
   generalize hwM15:World.setCell _ _ _ = wM15;have hM15:Kept (fun k => k = g) wM12 wM15:=by rw [← hwM15];exact (((Kept.refl _ _).one _).one _).one _ |>.one _
   have HROW2:=Hh (show wM15.rowIs g 34 (n * 4) _ by rw [← hwM15];exact (((HROW.out.set (k * 4) _).set (k * 4 + 1) _).set (k * 4 + 2) _).set (k * 4 + 3) _)
   clear hwM15 q0 q1 q2 q3 f0 f1 f2 f3;refine wpR_done (by kernel_rfl) ?_
   have HK:=Hh ((Kept.of_grow (S:=fun k => k = g) HG12.out).trans hM15);have HQ1:=Hh ((hM15.block _ (heap_lt HR6''.out) (by have:=HSZ.out;have:=HW6.out;show ¬ W0.heap.size = g;omega)).trans HR6''.out)
   have HQ2:=Hh ((hM15.block _ (heap_lt HR9'.out) (by have:=HSZ.out;have:=HW9.out;show ¬ wM6.heap.size = g;omega)).trans HR9'.out)
   have HQ3:=Hh ((hM15.block _ (heap_lt HR12.out) (by have:=HSZ.out;have:=HW12.out;show ¬ wM9.heap.size = g;omega)).trans HR12.out)
   clear b0 b1 b2 b3 hM6 hM9 hM12 hM15;go_wp2;go_roundg (n - (k + 1))
   case rel =>
    refine ⟨k + 1,_,by omega,rfl,by go_num,HROW2,Hh (fun i hi => ?_),Hh (fun j h1 h2 => ?_),Hh ?_⟩
    ·by_cases hik:i = k
     ·subst hik
      have g1:g < W0.heap.size:=by have:=HSZ.out;have:=HW6.out;omega
      have g2:g < wM6.heap.size:=by have:=HSZ.out;have:=HW9.out;omega
      have g3:g < wM9.heap.size:=by have:=HSZ.out;have:=HW12.out;omega
      refine ⟨W0.heap.size,wM6.heap.size,wM9.heap.size,g1,g2,g3,?_,?_,?_,?_,?_,?_,?_⟩
      all_goals first | (rw [HNDE.out];simp;done) | skip
      ·rw [HNDE.out];exact HQ1.out
      ·rw [HNDE.out];exact HQ2.out
      ·rw [HNDE.out];exact HQ3.out
     ·refine (HO.out i (by omega)).kept HK.out (fun j h1 h2 => ?_)
      have e0:¬ j = k * 4:=by omega
      have e1:¬ j = k * 4 + 1:=by omega
      have e2:¬ j = k * 4 + 2:=by omega
      have e3:¬ j = k * 4 + 3:=by omega
      simp [e0,e1,e2,e3]
    ·have e0:¬ j = k * 4:=by omega
     have e1:¬ j = k * 4 + 1:=by omega
     have e2:¬ j = k * 4 + 2:=by omega
     have e3:¬ j = k * 4 + 3:=by omega
     simp only [e0,e1,e2,e3,if_false];exact HE.out j (by omega) h2
    ·exact Kept.grow HGR.out HK.out (fun i e => by rw [HG.out];exact Nat.le_of_eq e.symm)
   case measure => omega
  ·obtain rfl:n = k:=by omega
   go_wp2;go_ret;exact ⟨by rw [HG.out];rfl,by rw [HG.out];exact ⟨f,by rw [HN.out];exact HR.out,fun i hi => HO.out i (by rw [← HN.out];exact hi)⟩,HGR.out⟩
open Go.RowKit Go.Lib
theorem add_zero (a:Addr):a.add 0 = a:=by
 obtain ⟨b,o,s⟩:=a;unfold Addr.add;split <;> simp_all
def cutA (A:Option Addr) (c k:Nat):Option Addr:=if c = k then A else A.map fun x => x.add (k * 4)
theorem run_cut_lo (A:Option Addr) (n c k:Nat) (hk:k ≤ n) (W:World) :
  (Instr.slice 22 (.slice A n c) (some (.int .i64 ((k:Nat):Int))) none none).run Tryz.prog W = .ok (.slice (cutA A c k) (n - k) (c - k)) W:=by
 obtain ⟨i,hi,_,hsz,_⟩:=info_of info_node;have h0:(0:Int) ≤ ((k:Nat):Int):=by omega
 have h1:((k:Nat):Int) ≤ ((n:Nat):Int):=by omega
 simp [Instr.slice,run_underlying Tryz.underlying22,Instr.sliceBounds,Instr.sliceBound,asIntOf,sizeOf,typeInfo,hi,hsz,h0,h1,cutA];omega
theorem run_cut_hi (A:Option Addr) (n c k:Nat) (hk:k ≤ c) (W:World) :
  (Instr.slice 22 (.slice A n c) none (some (.int .i64 ((k:Nat):Int))) none).run Tryz.prog W = .ok (.slice A k c) W:=by
 obtain ⟨i,hi,_,hsz,_⟩:=info_of info_node;have h0:(0:Int) ≤ ((k:Nat):Int):=by omega
 have h1:((k:Nat):Int) ≤ ((c:Nat):Int):=by omega
 have ha:(Option.map (fun x:Addr => x.add 0) A) = A:=by cases A <;> simp [add_zero]
 simp [Instr.slice,run_underlying Tryz.underlying22,Instr.sliceBounds,Instr.sliceBound,asIntOf,sizeOf,typeInfo,hi,hsz,h0,h1,ha];omega
theorem Nodes.cut {w:World} {B:Nat} {A:Option Addr} {ns:List Nd} (h:Nodes w B A ns) (c k:Nat) (hc:ns.length ≤ c):Nodes w B (cutA A c k) (ns.drop k):=by
 unfold cutA;split
 ·rename_i e
  rw [List.drop_eq_nil_of_le (by omega)]
  exact Nodes.none_
 ·cases A with
  | none => rw [h.none_eq];simp;exact Nodes.none_
  | some a =>
   intro hn;rw [List.length_drop] at hn;obtain ⟨b,off,e,_⟩:=h (by omega)
   cases e
   rw [Option.map_some,addr_add];exact h.drop k (by rw [List.length_drop];exact hn)
def NumsT (T:Nat → Prop) (w:World) (A:Option Addr) (xs:List Int):Prop :=
 0 < xs.length → ∃ b off,A = some ⟨b,off,none⟩ ∧ T b ∧ ∀ i,i < xs.length → w.cell? ⟨b,off + i,none⟩ = some (.int .i64 (xs.getD i 0))
def DecsT (T:Nat → Prop) (w:World) (A:Option Addr) (ds:List (Int × Int)):Prop :=
 0 < ds.length → ∃ b off,A = some ⟨b,off,none⟩ ∧ T b ∧ ∀ i,i < ds.length → w.cell? ⟨b,off + i * 2,none⟩ = some (.int .i64 (ds.getD i (0,0)).1) ∧ w.cell? ⟨b,off + i * 2 + 1,none⟩ = some (.int .i64 (ds.getD i (0,0)).2)
def NodeT (T:Nat → Prop) (w:World) (b o:Nat) (n:Nd):Prop :=
 ∃ A1 c1 A2 c2 A3 c3,w.cell? ⟨b,o,none⟩ = some (.int .i64 n.kind) ∧ w.cell? ⟨b,o + 1,none⟩ = some (.slice A1 n.shp.length c1) ∧ w.cell? ⟨b,o + 2,none⟩ = some (.slice A2 n.ints.length c2) ∧
  w.cell? ⟨b,o + 3,none⟩ = some (.slice A3 n.decs.length c3) ∧ NumsT T w A1 n.shp ∧ NumsT T w A2 n.ints ∧ DecsT T w A3 n.decs
def NodesT (T:Nat → Prop) (w:World) (A:Option Addr) (ns:List Nd):Prop :=
 0 < ns.length → ∃ b off,A = some ⟨b,off,none⟩ ∧ T b ∧ ∀ i,i < ns.length → NodeT T w b (off + i * 4) (ns.getD i nd0)
section
variable {T T' : Nat → Prop} {w w' : World} {A : Option Addr}
theorem cell_keep {b:Nat} (h:w'.heap[b]? = w.heap[b]?) (o:Nat):w'.cell? ⟨b,o,none⟩ = w.cell? ⟨b,o,none⟩:=World.cell?_of_block (w:=w) (a:=⟨b,o,none⟩) h
theorem NumsT.keep {xs:List Int} (h:NumsT T w A xs) (hk:∀ b,T b → T' b ∧ w'.heap[b]? = w.heap[b]?):NumsT T' w' A xs:=fun hn => by
 obtain ⟨b,off,e,hT,hc⟩:=h hn;exact ⟨b,off,e,(hk b hT).1,fun i hi => (cell_keep (hk b hT).2 _).trans (hc i hi)⟩
theorem DecsT.keep {ds:List (Int × Int)} (h:DecsT T w A ds) (hk:∀ b,T b → T' b ∧ w'.heap[b]? = w.heap[b]?):DecsT T' w' A ds:=fun hn => by
 obtain ⟨b,off,e,hT,hc⟩:=h hn;exact ⟨b,off,e,(hk b hT).1,fun i hi => ⟨(cell_keep (hk b hT).2 _).trans (hc i hi).1,(cell_keep (hk b hT).2 _).trans (hc i hi).2⟩⟩
theorem NodesT.keep {ns:List Nd} (h:NodesT T w A ns) (hk:∀ b,T b → T' b ∧ w'.heap[b]? = w.heap[b]?):NodesT T' w' A ns:=fun hn => by
 obtain ⟨b,off,e,hT,hc⟩:=h hn;refine ⟨b,off,e,(hk b hT).1,fun i hi => ?_⟩;obtain ⟨A1,c1,A2,c2,A3,c3,h0,h1,h2,h3,n1,n2,n3⟩:=hc i hi;have hc:=cell_keep (hk b hT).2;exact ⟨A1,c1,A2,c2,A3,c3,(hc _).trans h0,(hc _).trans h1,(hc _).trans h2,(hc _).trans h3,n1.keep hk,n2.keep hk,n3.keep hk⟩
theorem NumsT.nums {xs:List Int} (h:NumsT T w A xs):Nums .i64 w w.heap.size A xs:=fun hn => by
 obtain ⟨b,off,e,hT,hc⟩:=h hn;exact ⟨b,off,e,block_lt_of_cell (hc 0 hn),hc⟩
theorem DecsT.decs {ds:List (Int × Int)} (h:DecsT T w A ds):Decs w w.heap.size A ds:=fun hn => by
 obtain ⟨b,off,e,hT,hc⟩:=h hn;exact ⟨b,off,e,block_lt_of_cell (hc 0 hn).1,hc⟩
theorem NodesT.nodes {ns:List Nd} (h:NodesT T w A ns):Nodes w w.heap.size A ns:=fun hn => by
 obtain ⟨b,off,e,hT,hc⟩:=h hn;refine ⟨b,off,e,?_,fun i hi => ?_⟩
 ·obtain ⟨A1,c1,A2,c2,A3,c3,h0,_⟩:=hc 0 hn
  exact block_lt_of_cell h0
 ·obtain ⟨A1,c1,A2,c2,A3,c3,h0,h1,h2,h3,n1,n2,n3⟩:=hc i hi
  exact ⟨A1,c1,A2,c2,A3,c3,h0,h1,h2,h3,n1.nums,n2.nums,n3.decs⟩
end
theorem Nodes.nodesT {w:World} {B:Nat} {A:Option Addr} {ns:List Nd} (h:Nodes w B A ns):NodesT (fun b => b < B) w A ns:=fun hn => by
 obtain ⟨b,off,e,hB,hc⟩:=h hn;refine ⟨b,off,e,hB,fun i hi => ?_⟩;obtain ⟨A1,c1,A2,c2,A3,c3,h0,h1,h2,h3,n1,n2,n3⟩:=hc i hi;exact ⟨A1,c1,A2,c2,A3,c3,h0,h1,h2,h3,n1,n2,n3⟩
def KidsAt (w:World) (B:Nat) (A:Option Addr) (ks:List (List Nd)):Prop :=
 0 < ks.length → ∃ b off,A = some ⟨b,off,none⟩ ∧ b < B ∧ ∀ i,i < ks.length → ∃ A' c',w.cell? ⟨b,off + i,none⟩ = some (.slice A' (ks.getD i []).length c') ∧ (ks.getD i []).length ≤ c' ∧ Nodes w B A' (ks.getD i [])
theorem KidsAt.none_ {w:World} {B:Nat} {A:Option Addr}:KidsAt w B A []:=fun h => absurd h (by simp)
theorem KidsAt.grow {w w':World} {A:Option Addr} {ks:List (List Nd)} (h:KidsAt w w.heap.size A ks) (hg:Grow w w'):KidsAt w' w'.heap.size A ks:=fun hn => by
 obtain ⟨b,off,e,hb,hc⟩:=h hn;refine ⟨b,off,e,Nat.lt_of_lt_of_le hb hg.size,fun i hi => ?_⟩;obtain ⟨A',c',h1,h2,h3⟩:=hc i hi;exact ⟨A',c',(hg.cell (p:=⟨b,off + i,none⟩) hb).trans h1,h2,h3.grow hg⟩
def OwnK (B:Nat) (v:Value) (ks:List (List Nd)) (w:World):Prop :=
 ∃ vals,w.ownsRow B 22 1 v ks.length vals ∧ ∀ i,i < ks.length → ∃ A' c',vals[i]? = some (.slice A' (ks.getD i []).length c') ∧ (ks.getD i []).length ≤ c' ∧ NodesT (fun b => B ≤ b ∧ v.ownBlock ≠ some b ∧ b < w.heap.size) w A' (ks.getD i [])
theorem ownK_nil (B:Nat) (w:World):OwnK B (.slice none 0 0) [] w:=⟨[],World.ownsRow_nil _ _ _ _,fun i hi => absurd hi (by simp)⟩
theorem OwnK.grow {B:Nat} {v:Value} {ks:List (List Nd)} {w w':World} (h:OwnK B v ks w) (hg:Grow w w'):OwnK B v ks w':=by
 obtain ⟨vals,ho,hk⟩:=h;refine ⟨vals,⟨ho.1,?_⟩,fun i hi => ?_⟩
 ·rcases ho.2 with h0 | ⟨g',cap',cur,hv,hbg,hgg,rest⟩
  ·exact .inl h0
  ·exact .inr ⟨g',cap',cur,hv,hbg,(hg.block g' (heap_lt hgg)).trans hgg,rest⟩
 ·obtain ⟨A',c',h1,h2,h3⟩:=hk i hi
  exact ⟨A',c',h1,h2,h3.keep fun b hb => ⟨⟨hb.1,hb.2.1,Nat.lt_of_lt_of_le hb.2.2 hg.size⟩,hg.block b hb.2.2⟩⟩
theorem OwnK.kids {B:Nat} {v:Value} {ks:List (List Nd)} {w:World} (h:OwnK B v ks w):∃ A c,v = .slice A ks.length c ∧ (A = none → c = 0) ∧ ks.length ≤ c ∧ KidsAt w w.heap.size A ks:=by
 obtain ⟨vals,ho,hk⟩:=h
 rcases ho.2 with ⟨rfl,hx⟩ | ⟨g,cap,cur,rfl,hbg,hgg,hnc,_,hsz,htake⟩
 ·have:ks = []:=List.eq_nil_of_length_eq_zero hx
  subst this;exact ⟨none,0,rfl,fun _ => rfl,Nat.le_refl _,KidsAt.none_⟩
 ·refine ⟨some ⟨g,0,none⟩,cap,rfl,by simp,hnc,fun hp => ⟨g,0,rfl,heap_lt hgg,fun i hi => ?_⟩⟩
  obtain ⟨A',c',h1,h2,h3⟩:=hk i hi;refine ⟨A',c',?_,h2,h3.nodes⟩;rw [Nat.zero_add,cell_of_row w g i cur _ (0,0) hgg,← h1,← htake,List.getElem?_take,if_pos (by omega),Array.getElem?_toList]
theorem wpList_append_kid {ops:Array Oper} {rest:List Oper} {o:Oper} {a:Act} {w:World} {Q:Exit → Act → World → Prop} (hgd:o.guard = none) (s x:Operand)
  (ho:o.op = .call { callee:=.builtin .append,args:=#[s,x],argTypes:=#[35,35] }) (base:Nat) (v:Value) (ks:List (List Nd)) (kid:List Nd) (g:Nat) (A':Option Addr) (c':Nat)
  (hs:a.eval s = v) (hown:OwnK base v ks w) (hx:a.eval x = .slice (some ⟨g,0,none⟩) 1 1) (hcell:w.cell? ⟨g,0,none⟩ = some (.slice A' kid.length c')) (hkc:kid.length ≤ c')
  (hkid:NodesT (fun b => base ≤ b ∧ v.ownBlock ≠ some b ∧ b < w.heap.size) w A' kid) (hb:ks.length ≤ 1100000) (hbase:base ≤ w.heap.size)
  (h:∀ v' w',Hid (OwnK base v' (ks ++ [kid]) w') → Hid (Below base w w') → wpList Tryz.prog ops Q rest (a.put o.dst v') w'):wpList Tryz.prog ops Q (o :: rest) a w:=by
 obtain ⟨i0,hi,hz0,hz1,hz2⟩:=info_of info_row;obtain ⟨vals,hv,hk⟩:=hown;refine wpList_append_own_at w hgd s x 35 ho base 22 i0 (.slice none 0 0) 1 24 Tryz.underlying35 hi hz0 hz1 hz2 rfl (by decide) v ks.length vals hs hv ⟨g,0,none⟩ 1 1 [.slice A' kid.length c'] hx rfl ?_ ?_ (by unfold maxLen;omega) (by omega) hbase ?_
 ·intro j u hj
  match j,hj with
  | 0,hj => cases hj;rw [addr_add];exact hcell
  | j + 1,hj => simp at hj
 ·intro u hu
  rw [List.mem_singleton.1 hu];rfl
 ·intro v' w' hown' hgrow _ hat
  refine h v' w' (Hh ⟨vals ++ [.slice A' kid.length c'],by rw [List.length_append];exact hown',fun i hi => ?_⟩) (Hh (Below.grown (Below.refl _ _) hgrow hbase (fun g hg => (hv.lt g hg).1)))
  have hkeep:∀ b,(base ≤ b ∧ v.ownBlock ≠ some b ∧ b < w.heap.size) → (base ≤ b ∧ v'.ownBlock ≠ some b ∧ b < w'.heap.size) ∧ w'.heap[b]? = w.heap[b]?:=fun b hb => by
   refine ⟨⟨hb.1,?_,Nat.lt_of_lt_of_le hb.2.2 hgrow.size⟩,hgrow.block b hb.2.2 (fun e => hb.2.1 e.symm)⟩;intro e
   rcases hat with h | h
   ·exact hb.2.1 (h.symm.trans e)
   ·rw [h] at e;cases e;omega
  have hvl:vals.length = ks.length:=by have:=hv.1;omega
  by_cases hik:i < ks.length
  ·obtain ⟨A1,c1,h1,h2,h3⟩:=hk i hik
   have e1:(ks ++ [kid]).getD i [] = ks.getD i []:=by simp [List.getD,List.getElem?_append_left hik]
   rw [e1];exact ⟨A1,c1,by rw [List.getElem?_append_left (by omega)];exact h1,h2,h3.keep hkeep⟩
  ·have hik':i = ks.length:=by rw [List.length_append] at hi;simp at hi;omega
   subst hik';have e1:(ks ++ [kid]).getD ks.length [] = kid:=by simp
   rw [e1];exact ⟨A',c',by rw [List.getElem?_append_right (by omega),hvl];simp,hkc,hkid.keep hkeep⟩
open Go.RowKit
theorem tmod_ten (q:Int):(q.tmod 10 = 0) ↔ q % 10 = 0:=by
 constructor
 ·intro h
  have:=Int.tmod_add_mul_tdiv q 10;omega
 ·intro h
  exact Int.tmod_eq_zero_of_dvd (by omega)
theorem tdiv_ten {q:Int} (h:q % 10 = 0):q.tdiv 10 = q / 10:=Int.tdiv_eq_ediv_of_dvd (by omega)
theorem norm_any (m e:Int) (w:World) (hm:In m) (he:In e) :
  Calls Tryz.prog 41 #[.agg #[.int .i64 m,.int .i64 e]] w fun x w' =>
   x = .returned (.tuple #[.agg #[.int .i64 (norm m e).1.1,.int .i64 (norm m e).1.2],.bool (norm m e).2]) ∧ Grow w w':=by
 have hm1:=hm.1;have hm2:=hm.2;have he1:=he.1;have he2:=he.2
 have HM:=Hh hm;clear hm he
 go_enter Tryz.func41,Tryz.ntmps41
 by_cases h0:m = 0
 ·subst h0
  go_wp2;exact bodyPost_ret (v:=.tuple #[.agg #[.int .i64 0,.int .i64 0],.bool true]) (by simp [results,Tryz.results41,go_sem]) rfl ⟨by rw [norm_zero],grow_new2 _ _ _⟩
 ·by_cases hbig:32767 < e
  ·go_wp2
   obtain ⟨q,j,hq,hq0,hj⟩:=parts_in HM.out h0;have hn:norm m e = ((0,0),false):=by
    rw [norm_of hq hq0 (by omega)]
    have:okExp (e + (j:Nat)) = false:=by simp [okExp];omega
    rw [this];rfl
   exact bodyPost_ret (v:=.tuple #[.agg #[.int .i64 0,.int .i64 0],.bool false]) (by simp [results,Tryz.results41,go_sem]) rfl ⟨by rw [hn],grow_new2 _ _ _⟩
  ·go_wp2
   go_loopg [] m.natAbs (fun gk wr => ∃ (q x:Int) (j:Nat),gk = q.natAbs ∧ Hid (m = q * 10 ^ j) ∧ q ≠ 0 ∧ -9223372036854775808 ≤ q ∧ q ≤ 9223372036854775807 ∧ Hid (x = e + j) ∧ -9223372036854775808 ≤ x ∧ x ≤ 32785 ∧
    wr = (w.alloc (.cells #[.int .i64 q,.int .i64 x] 41)).alloc (.cells #[.int .i64 0,.int .i64 0] 41))
   case atStart => exact ⟨m,e,0,rfl,Hh (by simp),h0,hm1,hm2,Hh (by simp),he1,by omega,rfl⟩
   case round =>
    obtain ⟨q,x,j,rfl,HQ,hq,hq1,hq2,HX,hx1,hx2,rfl⟩:=hrel
    by_cases h10:q % 10 = 0
    ·have ht:q.tmod 10 = 0:=(tmod_ten q).2 h10
     have hd:q.tdiv 10 = q / 10:=tdiv_ten h10;obtain ⟨q',hq'⟩:∃ q',q / 10 = q':=⟨_,rfl⟩;have HR:Hid (m = q' * 10 ^ (j + 1)):=Hh (by rw [HQ.out,Int.pow_succ,← Int.mul_assoc];rw [show q' * 10 ^ j * 10 = q' * 10 * 10 ^ j by rw [Int.mul_assoc,Int.mul_comm (10 ^ j) 10,← Int.mul_assoc],show q' * 10 = q by omega])
     have hqn:q' ≠ 0:=by omega
     have hj:=j_le HM.out HR.out hqn;have hxx:=HX.out;rw [hq'] at hd;have HXX:Hid (x + 1 = e + ((j + 1:Nat):Int)):=Hh (by omega)
     have hx3:x + 1 ≤ 32785:=by omega
     have hlt:q'.natAbs < q.natAbs:=by omega
     have hqa:-9223372036854775808 ≤ q':=by omega
     have hqb:q' ≤ 9223372036854775807:=by omega
     clear hxx h10 hq';go_wp2;go_roundg q'.natAbs
     ·exact ⟨q',x + 1,j + 1,rfl,HR,hqn,hqa,hqb,HXX,by omega,hx3,rfl⟩
     ·exact hlt
    ·have ht:¬ q.tmod 10 = 0:=fun h => h10 ((tmod_ten q).1 h)
     have hj:=j_le HM.out HQ.out hq;have HN:=Hh (norm_of (e:=e) HQ.out h10 (by omega))
     by_cases hlo:x < -32768
     ·have hok:okExp (e + (j:Nat)) = false:=by rw [← HX.out];simp [okExp];omega
      rw [hok] at HN;have HN':=Hh HN.out;clear h10 hok HN;go_wp2;exact bodyPost_ret (v:=.tuple #[.agg #[.int .i64 0,.int .i64 0],.bool false]) (by simp [results,Tryz.results41,go_sem]) rfl ⟨by rw [HN'.out];rfl,grow_new2 _ _ _⟩
     ·by_cases hhi:32767 < x
      ·have hok:okExp (e + (j:Nat)) = false:=by rw [← HX.out];simp [okExp];omega
       rw [hok] at HN;have HN':=Hh HN.out;clear h10 hok HN;go_wp2;exact bodyPost_ret (v:=.tuple #[.agg #[.int .i64 0,.int .i64 0],.bool false]) (by simp [results,Tryz.results41,go_sem]) rfl ⟨by rw [HN'.out];rfl,grow_new2 _ _ _⟩
      ·have hok:okExp (e + (j:Nat)) = true:=by rw [← HX.out];simp [okExp];omega
       rw [hok] at HN;have HN':=Hh HN.out;clear h10 hok HN;go_wp2;exact bodyPost_ret (v:=.tuple #[.agg #[.int .i64 q,.int .i64 x],.bool true]) (by simp [results,Tryz.results41,go_sem]) rfl ⟨by rw [HN'.out,HX.out];rfl,grow_new2 _ _ _⟩
theorem right_any (m e:Int) (w:World) (hm:In m) (he:In e) :
  Calls Tryz.prog 22 #[.agg #[.int .i64 m,.int .i64 e]] w fun x w' => x = .returned (.bool (rightD m e)) ∧ Grow w w':=by
 obtain ⟨r1,r2,b,hN⟩:∃ r1 r2 b,norm m e = ((r1,r2),b):=⟨_,_,_,rfl⟩;have HC:Hid (∀ W,Calls Tryz.prog 41 #[.agg #[.int .i64 m,.int .i64 e]] W fun x w' => x = .returned (.tuple #[.agg #[.int .i64 r1,.int .i64 r2],.bool b]) ∧ Grow W w') :=
  Hh (fun W => by have h:=norm_any m e W hm he;rw [hN] at h;exact h)
 have HN:=Hh hN;clear hN
 go_enter Tryz.func22,Tryz.ntmps22
 go_wp2_with fail;refine (HC.out _).mono ?_;rintro x w1 ⟨rfl,hg⟩;have hb:=(boxed_new w (.int .i64 m) (.int .i64 e) 41).grow hg;have hc0:∀ o,(w1.alloc o).cell? ⟨w.heap.size,0,none⟩ = some (.int .i64 m):=fun o => (hb.grow (grow_new _ o)).fst;have hc1:∀ o,(w1.alloc o).cell? ⟨w.heap.size,1,none⟩ = some (.int .i64 e):=fun o => (hb.grow (grow_new _ o)).snd;have HG:=Hh ((grow_new w _).trans hg);clear hb hg HC
 cases b
 ·go_wp2
  go_ret;exact ⟨by unfold rightD;rw [HN.out];simp,HG.out.trans (grow_new _ _)⟩
 ·by_cases h1:r1 = m
  ·subst h1
   by_cases h2:r2 = e
   ·subst h2
    go_wp2;go_ret;exact ⟨by unfold rightD;rw [HN.out];simp,HG.out.trans (grow_new _ _)⟩
   ·have h2':(r2 == e) = false:=by simpa using h2
    go_wp2;go_ret;exact ⟨by unfold rightD;rw [HN.out];simp [h2],HG.out.trans (grow_new _ _)⟩
  ·have h1':(r1 == m) = false:=by simpa using h1
   go_wp2
   all_goals
    go_ret;exact ⟨by unfold rightD;rw [HN.out];simp [h1],HG.out.trans (grow_new _ _)⟩
end Go.Proofs.YteoogioanjkacaaGreatDoor
section
namespace Go.Proofs.YteoogioanjkacaaGreatDoor
open Go.RowKit Go.Lib
theorem bit_any (x:Int) (w:World):Calls Tryz.prog 185 #[.int .i64 x] w (Gives (.bool (bitB x)) w):=by
 by_cases h0:x = 0
 ·subst h0
  go_enter Tryz.func185,Tryz.ntmps185
  go_wp2;go_ret;exact ⟨rfl,rfl⟩
 ·have h0':(x == 0) = false:=by simpa using h0
  have e:bitB x = (x == 1):=by simp [bitB,h0']
  rw [e]
  go_enter Tryz.func185,Tryz.ntmps185
  go_wp2;go_ret;exact ⟨rfl,rfl⟩
theorem sign_any (x:Int) (w:World):Calls Tryz.prog 186 #[.int .i64 x] w (Gives (.bool (signB x)) w):=by
 by_cases h0:x < 0
 ·have e:signB x = false:=by simp [signB];omega
  rw [e];have h0':¬ 0 ≤ x:=by omega
  go_enter Tryz.func186,Tryz.ntmps186
  go_wp2;go_ret;exact ⟨rfl,rfl⟩
 have h0':0 ≤ x:=by omega
 by_cases h1:1114111 < x
 ·have e:signB x = false:=by simp [signB];omega
  rw [e];have h1':¬ x ≤ 1114111:=by omega
  clear h0 e
  go_enter Tryz.func186,Tryz.ntmps186
  go_wp2;go_ret;exact ⟨rfl,rfl⟩
 have h1':x ≤ 1114111:=by omega
 by_cases h2:x < 55296
 ·have e:signB x = true:=by simp [signB];omega
  rw [e];clear h0 h1 e
  go_enter Tryz.func186,Tryz.ntmps186
  go_wp2;go_ret;exact ⟨rfl,rfl⟩
 by_cases h3:57343 < x
 ·have e:signB x = true:=by simp [signB];omega
  rw [e];clear h0 h1 e
  go_enter Tryz.func186,Tryz.ntmps186
  go_wp2;go_ret;exact ⟨rfl,rfl⟩
 ·have e:signB x = false:=by simp [signB];omega
  rw [e];clear h0 h1 e
  go_enter Tryz.func186,Tryz.ntmps186
  go_wp2;go_ret;exact ⟨rfl,rfl⟩
theorem allbit_any (A:Option Addr) (n c:Nat) (xs:List Int) (w:World) (hn:xs.length = n) (hm:n ≤ 9223372036854775807) (hr:Nums .i64 w w.heap.size A xs) :
  Calls Tryz.prog 184 #[.slice A n c,.func (.func 185) #[] #[]] w (Gives (.bool (xs.all bitB)) w):=by
 have HR:=Hh hr;have HN:=Hh hn;clear hr hn
 go_enter Tryz.func184,Tryz.ntmps184
 go_wp2
 go_loopg [9] n (fun g s8 wr => ∃ k:Nat,k ≤ n ∧ g = n - k ∧ s8 = .int .i64 k ∧ Hid ((xs.drop k).all bitB = xs.all bitB) ∧ w = wr)
 case atStart => exact ⟨0,Nat.zero_le _,rfl,rfl,Hh rfl,rfl⟩
 case round =>
  obtain ⟨k,hk,rfl,rfl,HA,rfl⟩:=hrel
  by_cases hlt:k < n
  ·have hkl:k < xs.length:=by rw [HN.out];exact hlt
   obtain ⟨b,off,rfl,hb,hcl⟩:=HR.out (by omega)
   have hc:=hcl k hkl;have HT:=Hh (fun h => all_drop (p:=bitB) hkl h);have HF:=Hh (fun h => all_fails (p:=bitB) hkl h);clear hcl hkl;generalize xs.getD k 0 = x at hc HT HF
   cases hx:bitB x with
   | true =>
    have HT':=Hh (HT.out hx);have HB:=Hh (bit_any x w);rw [hx] at HB;clear hx HT HF;go_wp2_with (go_at_call 185;refine (HB.out).mono ?_;rintro e w2 ⟨rfl,rfl⟩)
    go_roundg (n - (k + 1))
    case rel => exact ⟨k + 1,by omega,rfl,by go_num,Hh (HT'.out.symm.trans HA.out),rfl⟩
    case measure => omega
   | false =>
    have HF':=Hh (HF.out hx);have HB:=Hh (bit_any x w);rw [hx] at HB;clear hx HT HF;go_wp2_with (go_at_call 185;refine (HB.out).mono ?_;rintro e w2 ⟨rfl,rfl⟩)
    go_ret;exact ⟨by rw [← HA.out,HF'.out];rfl,rfl⟩
  ·obtain rfl:k = n:=by omega
   have HE:Hid (xs.all bitB = true):=Hh (by rw [← HA.out,← HN.out,List.drop_length];rfl)
   go_wp2;go_ret;exact ⟨by rw [HE.out];rfl,rfl⟩
theorem allsign_any (A:Option Addr) (n c:Nat) (xs:List Int) (w:World) (hn:xs.length = n) (hm:n ≤ 9223372036854775807) (hr:Nums .i64 w w.heap.size A xs) :
  Calls Tryz.prog 184 #[.slice A n c,.func (.func 186) #[] #[]] w (Gives (.bool (xs.all signB)) w):=by
 have HR:=Hh hr;have HN:=Hh hn;clear hr hn
 go_enter Tryz.func184,Tryz.ntmps184
 go_wp2
 go_loopg [9] n (fun g s8 wr => ∃ k:Nat,k ≤ n ∧ g = n - k ∧ s8 = .int .i64 k ∧ Hid ((xs.drop k).all signB = xs.all signB) ∧ w = wr)
 case atStart => exact ⟨0,Nat.zero_le _,rfl,rfl,Hh rfl,rfl⟩
 case round =>
  obtain ⟨k,hk,rfl,rfl,HA,rfl⟩:=hrel
  by_cases hlt:k < n
  ·have hkl:k < xs.length:=by rw [HN.out];exact hlt
   obtain ⟨b,off,rfl,hb,hcl⟩:=HR.out (by omega)
   have hc:=hcl k hkl;have HT:=Hh (fun h => all_drop (p:=signB) hkl h);have HF:=Hh (fun h => all_fails (p:=signB) hkl h);clear hcl hkl;generalize xs.getD k 0 = x at hc HT HF
   cases hx:signB x with
   | true =>
    have HT':=Hh (HT.out hx);have HB:=Hh (sign_any x w);rw [hx] at HB;clear hx HT HF;go_wp2_with (go_at_call 186;refine (HB.out).mono ?_;rintro e w2 ⟨rfl,rfl⟩)
    go_roundg (n - (k + 1))
    case rel => exact ⟨k + 1,by omega,rfl,by go_num,Hh (HT'.out.symm.trans HA.out),rfl⟩
    case measure => omega
   | false =>
    have HF':=Hh (HF.out hx);have HB:=Hh (sign_any x w);rw [hx] at HB;clear hx HT HF;go_wp2_with (go_at_call 186;refine (HB.out).mono ?_;rintro e w2 ⟨rfl,rfl⟩)
    go_ret;exact ⟨by rw [← HA.out,HF'.out];rfl,rfl⟩
  ·obtain rfl:k = n:=by omega
   have HE:Hid (xs.all signB = true):=Hh (by rw [← HA.out,← HN.out,List.drop_length];rfl)
   go_wp2;go_ret;exact ⟨by rw [HE.out];rfl,rfl⟩
theorem alld_drop {p:Int × Int → Bool} {xs:List (Int × Int)} {k:Nat} (h:k < xs.length) (hx:p (xs.getD k (0,0)) = true):(xs.drop k).all p = (xs.drop (k + 1)).all p:=by
 rw [drop_at (0,0) h,List.all_cons,hx,Bool.true_and]
theorem alld_fails {p:Int × Int → Bool} {xs:List (Int × Int)} {k:Nat} (h:k < xs.length) (hx:p (xs.getD k (0,0)) = false):(xs.drop k).all p = false:=by
 rw [drop_at (0,0) h,List.all_cons,hx,Bool.false_and]
theorem alldec_any (A:Option Addr) (n c:Nat) (xs:List (Int × Int)) (w:World) (hn:xs.length = n) (hm:n ≤ 9223372036854775807) (hi:∀ x ∈ xs,In x.1 ∧ In x.2) (hr:Decs w w.heap.size A xs) :
  Calls Tryz.prog 187 #[.slice A n c,.func (.func 22) #[] #[]] w (fun e w' => e = .returned (.bool (xs.all decB)) ∧ Grow w w'):=by
 have HR:=Hh hr;have HN:=Hh hn;have HI:=Hh hi;clear hr hn hi
 go_enter Tryz.func187,Tryz.ntmps187
 go_wp2
 go_loopg [9] n (fun g s8 wr => ∃ k:Nat,k ≤ n ∧ g = n - k ∧ s8 = .int .i64 k ∧ Hid ((xs.drop k).all decB = xs.all decB) ∧ Hid (Grow w wr))
 case atStart => exact ⟨0,Nat.zero_le _,rfl,rfl,Hh rfl,Hh (Grow.refl _)⟩
 case round =>
  obtain ⟨k,hk,rfl,rfl,HA,HG⟩:=hrel
  by_cases hlt:k < n
  ·have hkl:k < xs.length:=by rw [HN.out];exact hlt
   obtain ⟨b,off,rfl,hb,hcl⟩:=HR.out.grow HG.out (by omega)
   obtain ⟨hc1,hc2⟩:=hcl k hkl;have HT:=Hh (fun h => alld_drop (p:=decB) hkl h);have HF:=Hh (fun h => alld_fails (p:=decB) hkl h);have hin:=in_at HI.out k;clear hcl hkl hb;generalize xs.getD k (0,0) = x at hc1 hc2 HT HF hin;obtain ⟨x1,x2⟩:=x;dsimp only at hc1 hc2 hin
   cases hx:decB (x1,x2) with
   | true =>
    have HT':=Hh (HT.out hx);have HB:=Hh (fun W => right_any x1 x2 W hin.1 hin.2);rw [show rightD x1 x2 = true from hx] at HB;clear hx HT HF hin;go_wp2_with (go_at_call 22;refine (HB.out _).mono ?_;rintro e w2 ⟨rfl,hw2⟩)
    go_roundg (n - (k + 1))
    case rel => exact ⟨k + 1,by omega,rfl,by go_num,Hh (HT'.out.symm.trans HA.out),Hh ((HG.out.trans (grow_new _ _)).trans hw2)⟩
    case measure => omega
   | false =>
    have HF':=Hh (HF.out hx);have HB:=Hh (fun W => right_any x1 x2 W hin.1 hin.2);rw [show rightD x1 x2 = false from hx] at HB;clear hx HT HF hin;go_wp2_with (go_at_call 22;refine (HB.out _).mono ?_;rintro e w2 ⟨rfl,hw2⟩)
    go_ret;exact ⟨by rw [← HA.out,HF'.out];rfl,(HG.out.trans (grow_new _ _)).trans hw2⟩
  ·obtain rfl:k = n:=by omega
   have HE:Hid (xs.all decB = true):=Hh (by rw [← HA.out,← HN.out,List.drop_length];rfl)
   go_wp2;go_ret;exact ⟨by rw [HE.out];rfl,HG.out⟩
open Go.RowKit Go.Lib
def BoxN (w:World) (b:Nat) (k:Int) (A1:Option Addr) (l1 c1:Nat) (A2:Option Addr) (l2 c2:Nat) (A3:Option Addr) (l3 c3:Nat):Prop :=
 w.heap[b]? = some (.cells #[.int .i64 k,.slice A1 l1 c1,.slice A2 l2 c2,.slice A3 l3 c3] 34 (0,0))
section
variable {w w' : World} {b : Nat} {k : Int} {A1 A2 A3 : Option Addr} {l1 c1 l2 c2 l3 c3 : Nat}
theorem BoxN.lt (h:BoxN w b k A1 l1 c1 A2 l2 c2 A3 l3 c3):b < w.heap.size:=by
 rcases Nat.lt_or_ge b w.heap.size with k | k
 ·exact k
 ·rw [BoxN,Array.getElem?_eq_none k] at h;cases h
theorem BoxN.grow (h:BoxN w b k A1 l1 c1 A2 l2 c2 A3 l3 c3) (hg:Grow w w'):BoxN w' b k A1 l1 c1 A2 l2 c2 A3 l3 c3:=(hg.block b h.lt).trans h
theorem BoxN.at0 (h:BoxN w b k A1 l1 c1 A2 l2 c2 A3 l3 c3):w.cell? ⟨b,0,none⟩ = some (.int .i64 k):=cell_of_row w b 0 _ _ (0,0) h
theorem BoxN.at1 (h:BoxN w b k A1 l1 c1 A2 l2 c2 A3 l3 c3):w.cell? ⟨b,1,none⟩ = some (.slice A1 l1 c1):=cell_of_row w b 1 _ _ (0,0) h
theorem BoxN.at2 (h:BoxN w b k A1 l1 c1 A2 l2 c2 A3 l3 c3):w.cell? ⟨b,2,none⟩ = some (.slice A2 l2 c2):=cell_of_row w b 2 _ _ (0,0) h
theorem BoxN.at3 (h:BoxN w b k A1 l1 c1 A2 l2 c2 A3 l3 c3):w.cell? ⟨b,3,none⟩ = some (.slice A3 l3 c3):=cell_of_row w b 3 _ _ (0,0) h
theorem boxN_new (w:World) (k:Int) (A1:Option Addr) (l1 c1:Nat) (A2:Option Addr) (l2 c2:Nat) (A3:Option Addr) (l3 c3:Nat) :
  BoxN (w.alloc (.cells #[.int .i64 k,.slice A1 l1 c1,.slice A2 l2 c2,.slice A3 l3 c3] 34)) w.heap.size k A1 l1 c1 A2 l2 c2 A3 l3 c3:=heap_alloc_new w _
end
theorem has_any (x y:Nat) (b:Nat) (k:Int) (A1:Option Addr) (l1 c1:Nat) (A2:Option Addr) (l2 c2:Nat) (A3:Option Addr) (l3 c3:Nat) (w:World) (hb:BoxN w b k A1 l1 c1 A2 l2 c2 A3 l3 c3) (h2:l2 ≤ 1100000) (h3:l3 ≤ 1100000) :
  Calls Tryz.prog 183 #[.int .i64 (x:Nat),.int .i64 (y:Nat),.pointer (some ⟨b,0,none⟩)] w (Gives (.bool (l2 == x && l3 == y)) w):=by
 have hc2:=hb.at2;have hc3:=hb.at3;clear hb
 by_cases h:l2 = x
 ·subst h
  have e:(((l2:Nat):Int) == ((l2:Nat):Int)) = true:=by simp
  by_cases h':l3 = y
  ·subst h'
   have e':(((l3:Nat):Int) == ((l3:Nat):Int)) = true:=by simp
   have E:Hid ((l2 == l2 && l3 == l3) = true):=Hh (by simp)
   rw [E.out]
   go_enter Tryz.func183,Tryz.ntmps183
   go_wp2;go_ret;exact ⟨rfl,rfl⟩
  ·have e':(((l3:Nat):Int) == ((y:Nat):Int)) = false:=by simp;omega
   have E:Hid ((l2 == l2 && l3 == y) = false):=Hh (by simp [h'])
   rw [E.out]
   go_enter Tryz.func183,Tryz.ntmps183
   go_wp2;go_ret;exact ⟨rfl,rfl⟩
 ·have e:(((l2:Nat):Int) == ((x:Nat):Int)) = false:=by simp;omega
  have E:Hid ((l2 == x && l3 == y) = false):=Hh (by simp [h])
  rw [E.out]
  go_enter Tryz.func183,Tryz.ntmps183
  go_wp2;go_ret;exact ⟨rfl,rfl⟩
theorem fill_kind {n:Nd} {c:Nat} :
  (n.kind = 1 → fillB n c = ((n.ints.length == c && n.decs.length == 0) && n.ints.all bitB)) ∧
  (n.kind = 2 → fillB n c = (n.ints.length == c && n.decs.length == 0)) ∧
  (n.kind = 3 → fillB n c = ((n.ints.length == c && n.decs.length == 0) && n.ints.all signB)) ∧
  (n.kind = 4 → fillB n c = ((n.ints.length == 0 && n.decs.length == c) && n.decs.all decB)) ∧
  (n.kind = 5 → fillB n c = (n.ints.length == 0 && n.decs.length == 0)):=by
 refine ⟨fun h => ?_,fun h => ?_,fun h => ?_,fun h => ?_,fun h => ?_⟩ <;> simp [fillB,h]
theorem fill_other {n:Nd} {c:Nat} (h1:n.kind ≠ 1) (h2:n.kind ≠ 2) (h3:n.kind ≠ 3) (h4:n.kind ≠ 4) (h5:n.kind ≠ 5):fillB n c = false:=by
 simp [fillB,h1,h2,h3,h4,h5]
def Says (β:Bool) (w:World) (e:Ending) (w':World):Prop:=e = .returned (.bool β) ∧ Grow w w'
theorem filled_any (n:Nd) (c:Nat) (A1 A2 A3:Option Addr) (c1 c2 c3:Nat) (w:World) (hc:c ≤ 1048576) (hf:Fit n) (hn:IsNd w w.heap.size A1 A2 A3 n) :
  Calls Tryz.prog 168 #[.agg #[.int .i64 n.kind,.slice A1 n.shp.length c1,.slice A2 n.ints.length c2,.slice A3 n.decs.length c3],.int .i64 (c:Nat)] w (Says (fillB n c) w):=by
 have hmf:∀ (fn:Fn) (first cap:Array Value) (w:World),(Instr.makeFunc fn first cap).run Tryz.prog w = .ok (.func fn first cap) w:=fun _ _ _ _ => rfl;have h2:=hf.2.2.1;have h3:=hf.2.2.2.1;have HI:=Hh hf.2.2.2.2;have HN2:=Hh hn.2.1;have HN3:=Hh hn.2.2;obtain ⟨F1,F2,F3,F4,F5⟩:=fill_kind (n:=n) (c:=c);have G1:=Hh F1;have G2:=Hh F2;have G3:=Hh F3;have G4:=Hh F4;have G5:=Hh F5;have G6:=Hh (fill_other (n:=n) (c:=c));clear F1 F2 F3 F4 F5 hf hn;generalize fillB n c = β at *;obtain ⟨k,sh,xs,ds⟩:=n;dsimp only at *;obtain ⟨l2,hl2⟩:∃ l2,xs.length = l2:=⟨_,rfl⟩;obtain ⟨l3,hl3⟩:∃ l3,ds.length = l3:=⟨_,rfl⟩;have HL2:=Hh hl2;have HL3:=Hh hl3;rw [hl2] at G1 G2 G3 G4 G5 h2 ⊢;rw [hl3] at G1 G2 G3 G4 G5 h3 ⊢;clear hl2 hl3;generalize sh.length = l1 at *;have HB:=Hh (boxN_new w k A1 l1 c1 A2 l2 c2 A3 l3 c3);have HG:=Hh (grow_new w (.cells #[.int .i64 k,.slice A1 l1 c1,.slice A2 l2 c2,.slice A3 l3 c3] 34))
 by_cases k1:k = 1
 ·subst k1
  have E:=Hh (G1.out rfl);clear G1 G2 G3 G4 G5 G6;have HH:=Hh (has_any c 0 w.heap.size 1 A1 l1 c1 A2 l2 c2 A3 l3 c3 _ HB.out h2 h3);rw [E.out];clear E
  cases hb:(l2 == c && l3 == 0) with
  | false =>
   rw [hb] at HH;rw [Bool.false_and];clear hb
   go_enter Tryz.func168,Tryz.ntmps168
   go_wp2_with (go_at_call 183;refine (HH.out).mono ?_;rintro e w2 ⟨rfl,rfl⟩)
   go_ret;exact ⟨rfl,HG.out⟩
  | true =>
   rw [hb] at HH;rw [Bool.true_and];clear hb;have HA:=Hh (allbit_any A2 l2 c2 xs _ HL2.out (by omega) (HN2.out.grow HG.out))
   go_enter Tryz.func168,Tryz.ntmps168
   go_wp2_with (first | (go_at_call 183;refine (HH.out).mono ?_;rintro e w2 ⟨rfl,rfl⟩) | fail)
   refine (HA.out).mono ?_;rintro e w3 ⟨rfl,hw3⟩;go_wp2;go_ret;exact ⟨rfl,HG.out⟩
 by_cases k2:k = 2
 ·subst k2
  have E:=Hh (G2.out rfl);clear G1 G2 G3 G4 G5 G6;have HH:=Hh (has_any c 0 w.heap.size 2 A1 l1 c1 A2 l2 c2 A3 l3 c3 _ HB.out h2 h3);rw [E.out];clear E
  go_enter Tryz.func168,Tryz.ntmps168
  go_wp2_with (go_at_call 183;refine (HH.out).mono ?_;rintro e w2 ⟨rfl,rfl⟩)
  go_ret;exact ⟨rfl,HG.out⟩
 by_cases k3:k = 3
 ·subst k3
  have E:=Hh (G3.out rfl);clear G1 G2 G3 G4 G5 G6;have HH:=Hh (has_any c 0 w.heap.size 3 A1 l1 c1 A2 l2 c2 A3 l3 c3 _ HB.out h2 h3);rw [E.out];clear E
  cases hb:(l2 == c && l3 == 0) with
  | false =>
   rw [hb] at HH;rw [Bool.false_and];clear hb
   go_enter Tryz.func168,Tryz.ntmps168
   go_wp2_with (go_at_call 183;refine (HH.out).mono ?_;rintro e w2 ⟨rfl,rfl⟩)
   go_ret;exact ⟨rfl,HG.out⟩
  | true =>
   rw [hb] at HH;rw [Bool.true_and];clear hb;have HA:=Hh (allsign_any A2 l2 c2 xs _ HL2.out (by omega) (HN2.out.grow HG.out))
   go_enter Tryz.func168,Tryz.ntmps168
   go_wp2_with (first | (go_at_call 183;refine (HH.out).mono ?_;rintro e w2 ⟨rfl,rfl⟩) | fail)
   refine (HA.out).mono ?_;rintro e w3 ⟨rfl,hw3⟩;go_wp2;go_ret;exact ⟨rfl,HG.out⟩
 by_cases k4:k = 4
 ·subst k4
  have E:=Hh (G4.out rfl);clear G1 G2 G3 G4 G5 G6;have HH:=Hh (has_any 0 c w.heap.size 4 A1 l1 c1 A2 l2 c2 A3 l3 c3 _ HB.out h2 h3);rw [E.out];clear E
  cases hb:(l2 == 0 && l3 == c) with
  | false =>
   rw [hb] at HH;rw [Bool.false_and];clear hb
   go_enter Tryz.func168,Tryz.ntmps168
   go_wp2_with (go_at_call 183;refine (HH.out).mono ?_;rintro e w2 ⟨rfl,rfl⟩)
   go_ret;exact ⟨rfl,HG.out⟩
  | true =>
   rw [hb] at HH;rw [Bool.true_and];clear hb;have HA:=Hh (alldec_any A3 l3 c3 ds _ HL3.out (by omega) HI.out (HN3.out.grow HG.out))
   go_enter Tryz.func168,Tryz.ntmps168
   go_wp2_with (first | (go_at_call 183;refine (HH.out).mono ?_;rintro e w2 ⟨rfl,rfl⟩) | fail)
   refine (HA.out).mono ?_;rintro e w3 ⟨rfl,hw3⟩;go_wp2;go_ret;exact ⟨rfl,HG.out.trans hw3⟩
 by_cases k5:k = 5
 ·subst k5
  have E:=Hh (G5.out rfl);clear G1 G2 G3 G4 G5 G6;have HH:=Hh (has_any 0 0 w.heap.size 5 A1 l1 c1 A2 l2 c2 A3 l3 c3 _ HB.out h2 h3);rw [E.out];clear E
  go_enter Tryz.func168,Tryz.ntmps168
  go_wp2_with (go_at_call 183;refine (HH.out).mono ?_;rintro e w2 ⟨rfl,rfl⟩)
  go_ret;exact ⟨rfl,HG.out⟩
 have E:=Hh (G6.out k1 k2 k3 k4 k5);rw [E.out];have q1:(k == 1) = false:=by simpa using k1
 have q2:(k == 2) = false:=by simpa using k2
 have q3:(k == 3) = false:=by simpa using k3
 have q4:(k == 4) = false:=by simpa using k4
 have q5:(k == 5) = false:=by simpa using k5
 clear G1 G2 G3 G4 G5 G6 E
 go_enter Tryz.func168,Tryz.ntmps168
 go_wp2;go_ret;exact ⟨rfl,HG.out⟩
open Go.RowKit Go.Lib
theorem cnt_le1 (xs:List Int):cnt xs ≤ 1048576:=by
 unfold cnt;split
 ·exact (right_iff.1 (by assumption)).2.2
 ·omega
theorem itm_le (n:Nd):itm n ≤ 1048576:=by
 unfold itm;split
 ·exact cnt_le1 _
 ·omega
def SaysN (c:Nat) (β:Bool) (w:World) (e:Ending) (w':World):Prop:=e = .returned (.tuple #[.int .i64 (c:Nat),.bool β]) ∧ Grow w w'
theorem itemsOf_any (n:Nd) (A1 A2 A3:Option Addr) (c1 c2 c3:Nat) (w:World) (hf:Fit n) (hn:IsNd w w.heap.size A1 A2 A3 n) :
  Calls Tryz.prog 146 #[.agg #[.int .i64 n.kind,.slice A1 n.shp.length c1,.slice A2 n.ints.length c2,.slice A3 n.decs.length c3]] w (SaysN (itm n) (okB n) w):=by
 obtain ⟨C,hC⟩:∃ C,cnt n.shp = C:=⟨_,rfl⟩;obtain ⟨β,hβ⟩:∃ β,rightB n.shp = β:=⟨_,rfl⟩;obtain ⟨γ,hγ⟩:∃ γ,fillB n C = γ:=⟨_,rfl⟩;have hC1:C ≤ 1048576:=hC ▸ cnt_le1 _;have hm:n.shp.length ≤ 9223372036854775807:=by have:=hf.2.1;omega
 have HCO:=Hh (fun W h => count_any A1 n.shp.length c1 n.shp W rfl hm h);rw [hC,hβ] at HCO;have HFI:=Hh (fun W h => filled_any n C A1 A2 A3 c1 c2 c3 W hC1 hf h);rw [hγ] at HFI;have HO:Hid (okB n = (β && γ)):=Hh (by unfold okB;rw [hβ,hC,hγ])
 have HI:Hid (itm n = if (β && γ) = true then C else 0):=Hh (by unfold itm;rw [HO.out,hC])
 have HN:=Hh hn;clear hC hβ hγ hf hn;generalize okB n = ω at *;generalize itm n = ι at *;have HB:=Hh (boxN_new w n.kind A1 n.shp.length c1 A2 n.ints.length c2 A3 n.decs.length c3);have HG:=Hh (grow_new w (.cells #[.int .i64 n.kind,.slice A1 n.shp.length c1,.slice A2 n.ints.length c2,.slice A3 n.decs.length c3] 34));generalize n.shp.length = l1 at *;generalize n.ints.length = l2 at *;generalize n.decs.length = l3 at *;generalize n.kind = k at *
 go_enter Tryz.func146,Tryz.ntmps146
 go_wp2_with fail;refine (HCO.out _ (HN.out.1.grow HG.out)).mono ?_;rintro e w2 ⟨rfl,hw2⟩;have HG2:=Hh (show Grow w w2 by rw [hw2];exact HG.out)
 have HB2:BoxN w2 w.heap.size k A1 l1 c1 A2 l2 c2 A3 l3 c3:=by rw [hw2];exact HB.out
 have g0:=HB2.at0;have g1:=HB2.at1;have g2:=HB2.at2;have g3:=HB2.at3;have HB3:=Hh HB2;clear hw2 HB2 HCO
 cases β with
 | false =>
  have HI':Hid (ι = 0):=Hh (by rw [HI.out];rfl)
  have HO':Hid (ω = false):=Hh (by rw [HO.out];rfl)
  clear HI HO;go_wp2;go_ret2;exact ⟨by rw [HI'.out,HO'.out];rfl,HG2.out⟩
 | true =>
  go_wp2_with fail;refine (HFI.out _ (HN.out.grow HG2.out)).mono ?_;rintro e w3 ⟨rfl,hw3⟩;have HG3:=Hh (HG2.out.trans hw3);clear hw3 HFI
  cases γ with
  | false =>
   have HI':Hid (ι = 0):=Hh (by rw [HI.out];rfl)
   have HO':Hid (ω = false):=Hh (by rw [HO.out];rfl)
   clear HI HO;go_wp2;go_ret2;exact ⟨by rw [HI'.out,HO'.out];rfl,HG3.out⟩
  | true =>
   have HI':Hid (ι = C):=Hh (by rw [HI.out];rfl)
   have HO':Hid (ω = true):=Hh (by rw [HO.out];rfl)
   clear HI HO;go_wp2;go_ret2;exact ⟨by rw [HI'.out,HO'.out];rfl,HG3.out⟩
end Go.Proofs.YteoogioanjkacaaGreatDoor
end
