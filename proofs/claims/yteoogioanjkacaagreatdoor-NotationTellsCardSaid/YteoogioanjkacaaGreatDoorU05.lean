/-
  Contracts, joined: Least, Asks, Join, Fold, LayRow. Nothing is claimed here by itself.
-/
import Derived.Test.YteoogioanjkacaaGreatDoorU01
import Derived.Test.YteoogioanjkacaaGreatDoorU04
import Derived.Laws.EntriesVeiled
set_option maxRecDepth 100000
set_option maxHeartbeats 12800000
set_option linter.unusedSimpArgs false
set_option linter.unusedVariables false
namespace Go.Proofs.YteoogioanjkacaaGreatDoor
open Go.RowKit Go.Lib
section
variable {T : Nat → Prop} {w w' : World} {A : Option Addr}
theorem NumsT.grow {xs:List Int} (h:NumsT T w A xs) (hg:Grow w w'):NumsT T w' A xs:=fun hn => by
 obtain ⟨b,off,e,hb,hc⟩:=h hn;refine ⟨b,off,e,hb,fun i hi => ?_⟩;have:=hc i hi;exact (hg.cell (p:=⟨b,off + i,none⟩) (block_lt_of_cell this)).trans this
theorem DecsT.grow {ds:List (Int × Int)} (h:DecsT T w A ds) (hg:Grow w w'):DecsT T w' A ds:=fun hn => by
 obtain ⟨b,off,e,hb,hc⟩:=h hn;refine ⟨b,off,e,hb,fun i hi => ?_⟩;obtain ⟨h1,h2⟩:=hc i hi;exact ⟨(hg.cell (p:=⟨b,off + i * 2,none⟩) (block_lt_of_cell h1)).trans h1,(hg.cell (p:=⟨b,off + i * 2 + 1,none⟩) (block_lt_of_cell h2)).trans h2⟩
theorem NewN.to {B:Nat} {xs:List Int} (h:NewN B A xs w) (hT:∀ b,B ≤ b → T b):NumsT T w A xs:=h.keep fun b hb => ⟨hT b hb.1,rfl⟩
theorem NewD.to {B:Nat} {ds:List (Int × Int)} (h:NewD B A ds w) (hT:∀ b,B ≤ b → T b):DecsT T w A ds:=h.keep fun b hb => ⟨hT b hb.1,rfl⟩
theorem NumsT.nil_:NumsT T w A []:=fun h => absurd h (by simp)
theorem DecsT.nil_:DecsT T w A []:=fun h => absurd h (by simp)
end
def NdV (T:Nat → Prop) (w:World) (v:Value) (n:Nd):Prop :=
 ∃ A1 c1 A2 c2 A3 c3,v = .agg #[.int .i64 n.kind,.slice A1 n.shp.length c1,.slice A2 n.ints.length c2,.slice A3 n.decs.length c3] ∧ NumsT T w A1 n.shp ∧ NumsT T w A2 n.ints ∧ DecsT T w A3 n.decs
theorem BoxN.store {w:World} {b:Nat} {k:Int} {A1 A2 A3:Option Addr} {l1 c1 l2 c2 l3 c3:Nat} (h:BoxN w b k A1 l1 c1 A2 l2 c2 A3 l3 c3) (k':Int) (A1' A2' A3':Option Addr) (l1' c1' l2' c2' l3' c3':Nat) :
  BoxN ((((w.setCell ⟨b,0,none⟩ (.int .i64 k')).setCell ⟨b,1,none⟩ (.slice A1' l1' c1')).setCell ⟨b,2,none⟩ (.slice A2' l2' c2')).setCell ⟨b,3,none⟩ (.slice A3' l3' c3')) b k' A1' l1' c1' A2' l2' c2' A3' l3' c3':=by
 have h0:=heap_setCell_same w b 0 _ _ (.int .i64 k') h;have h1:=heap_setCell_same _ b 1 _ _ (.slice A1' l1' c1') h0;have h2:=heap_setCell_same _ b 2 _ _ (.slice A2' l2' c2') h1;exact heap_setCell_same _ b 3 _ _ (.slice A3' l3' c3') h2
theorem BoxN.froz {w:World} {b:Nat} {k:Int} {A1 A2 A3:Option Addr} {l1 c1 l2 c2 l3 c3:Nat} (h:BoxN w b k A1 l1 c1 A2 l2 c2 A3 l3 c3) (j:Nat):w.frozen? ⟨b,j,none⟩ = false:=frozen_of_row w b j _ _ h
theorem kept_store {w:World} {b:Nat} (u0 u1 u2 u3:Value):Kept (fun k => k = b) w ((((w.setCell ⟨b,0,none⟩ u0).setCell ⟨b,1,none⟩ u1).setCell ⟨b,2,none⟩ u2).setCell ⟨b,3,none⟩ u3) :=
 ((((Kept.refl _ w).one (i:=0) u0).one (i:=1) u1).one (i:=2) u2).one (i:=3) u3
def IntsVar (ib:Nat) (xs:List Int) (w:World):Prop:=∃ v,w.heap[ib]? = some (.cells #[v] 31 (0,0)) ∧ OwnI (ib + 1) v xs w
theorem IntsVar.lt {ib:Nat} {xs:List Int} {w:World} (h:IntsVar ib xs w):ib < w.heap.size:=by obtain ⟨v,h1,_⟩:=h;exact heap_lt h1
theorem IntsVar.grow {ib:Nat} {xs:List Int} {w w':World} (h:IntsVar ib xs w) (hg:Grow w w'):IntsVar ib xs w':=by
 obtain ⟨v,h1,h2⟩:=h;exact ⟨v,(hg.block ib (heap_lt h1)).trans h1,h2.grow hg⟩
theorem own_keep {w w':World} {B size n:Nat} {e:TypeId} {v:Value} {xs:List Value} (h:w.ownsRow B e size v n xs) (hk:∀ b,B ≤ b → w'.heap[b]? = w.heap[b]?):w'.ownsRow B e size v n xs:=by
 refine ⟨h.1,?_⟩
 rcases h.2 with h | ⟨g,cap,cur,e1,hb,hg,rest⟩
 ·exact .inl h
 ·exact .inr ⟨g,cap,cur,e1,hb,(hk g hb).trans hg,rest⟩
def StepL (ib:Nat) (β:Bool) (xs:List Int) (w:World) (e:Ending) (w':World):Prop:=e = .returned (.bool β) ∧ IntsVar ib xs w' ∧ Below ib w w'
theorem least1_any (m e:Int) (ib:Nat) (xs:List Int) (w:World) (hm:In m) (he:In e) (hx:xs.length ≤ 1100000) (hi:IntsVar ib xs w) :
  Calls Tryz.prog 86 #[.agg #[.int .i64 m,.int .i64 e],.pointer (some ⟨ib,0,none⟩)] w (StepL ib (!whlB (m,e)) (xs ++ [whlV (m,e)]) w):=by
 have HC:=Hh (fun W => dwhole_any m e W hm he);have e1:whlB (m,e) = (wholeD m e).2:=rfl;have e2:whlV (m,e) = (wholeD m e).1:=rfl;rw [e1,e2];clear e1 e2 hm he;generalize wholeD m e = r at *;obtain ⟨q,β⟩:=r;dsimp only at *;have hb:=boxed_new w (.int .i64 m) (.int .i64 e) 41;have c0:=hb.fst;have c1:=hb.snd;have HI:=Hh hi;have HLT:=Hh hi.lt;have HG1:=Hh (grow_new w (.cells #[.int .i64 m,.int .i64 e] 41));clear hb hi
 cases β with
 | false =>
  have HLE:Hid ((xs ++ [q]).length = xs.length + 1):=Hh (by simp)
  go_enter Tryz.func86,Tryz.ntmps86
  go_wp2_with fail;refine (HC.out _).mono ?_;rintro x w2 ⟨rfl,hg2⟩;have HG2:=Hh (HG1.out.trans hg2);clear hg2 HC c0 c1;obtain ⟨v,hv,hown⟩:=HI.out.grow HG2.out;have v0:=cell_of_row w2 ib 0 _ _ (0,0) hv;have HV:=Hh hv;have HO:=Hh (hown.grow (grow_new w2 (.cells #[.int .i64 q] 3)));have HL:=Hh (nums_lit w2 [q]);have HV3:=Hh ((Below.block (grow_new w2 (.cells #[.int .i64 q] 3)) ib (heap_lt hv)).trans hv);have HZ:Hid (ib + 1 ≤ (w2.alloc (.cells #[.int .i64 q] 3)).heap.size):=Hh (heap_lt HV3.out);clear hv hown;go_wp2_with (at_builtin;refine wpList_more_ints rfl _ _ rfl (ib + 1) v xs (some ⟨w2.heap.size,0,none⟩) 1 1 [q] rfl HO.out rfl rfl HL.out (by omega) HZ.out ?_;intro v' w5 HO5 HB5 HA5;have HV5:=Hh ((HB5.out.block ib (Nat.lt_succ_self _)).trans HV3.out);have f5:=frozen_of_row w5 ib 0 _ _ HV5.out;have c5:=cell_of_row w5 ib 0 _ _ (0,0) HV5.out;obtain ⟨A5,k5,e5,hk5,hN5⟩:=HO5.out.new;rw [HLE.out] at e5;subst e5)
  go_ret;refine ⟨rfl,⟨_,heap_setCell_same w5 ib 0 _ _ _ HV5.out,own_keep HO5.out fun b hb => heap_setCell_other w5 ⟨ib,0,none⟩ b _ (show b ≠ ib by omega)⟩,?_⟩
  have h1:=Below.trans (Below.mono HG2.out (Nat.le_of_lt HLT.out)) (Below.mono (grow_new w2 (.cells #[.int .i64 q] 3)) (Nat.le_of_lt (heap_lt HV.out)));exact Below.setCell (Below.trans h1 (Below.mono HB5.out (Nat.le_succ _))) (Nat.le_refl _) _
 | true =>
  have HLE:Hid ((xs ++ [q]).length = xs.length + 1):=Hh (by simp)
  go_enter Tryz.func86,Tryz.ntmps86
  go_wp2_with fail;refine (HC.out _).mono ?_;rintro x w2 ⟨rfl,hg2⟩;have HG2:=Hh (HG1.out.trans hg2);clear hg2 HC c0 c1;obtain ⟨v,hv,hown⟩:=HI.out.grow HG2.out;have v0:=cell_of_row w2 ib 0 _ _ (0,0) hv;have HV:=Hh hv;have HO:=Hh (hown.grow (grow_new w2 (.cells #[.int .i64 q] 3)));have HL:=Hh (nums_lit w2 [q]);have HV3:=Hh ((Below.block (grow_new w2 (.cells #[.int .i64 q] 3)) ib (heap_lt hv)).trans hv);have HZ:Hid (ib + 1 ≤ (w2.alloc (.cells #[.int .i64 q] 3)).heap.size):=Hh (heap_lt HV3.out);clear hv hown;go_wp2_with (at_builtin;refine wpList_more_ints rfl _ _ rfl (ib + 1) v xs (some ⟨w2.heap.size,0,none⟩) 1 1 [q] rfl HO.out rfl rfl HL.out (by omega) HZ.out ?_;intro v' w5 HO5 HB5 HA5;have HV5:=Hh ((HB5.out.block ib (Nat.lt_succ_self _)).trans HV3.out);have f5:=frozen_of_row w5 ib 0 _ _ HV5.out;have c5:=cell_of_row w5 ib 0 _ _ (0,0) HV5.out;obtain ⟨A5,k5,e5,hk5,hN5⟩:=HO5.out.new;rw [HLE.out] at e5;subst e5)
  go_ret;refine ⟨rfl,⟨_,heap_setCell_same w5 ib 0 _ _ _ HV5.out,own_keep HO5.out fun b hb => heap_setCell_other w5 ⟨ib,0,none⟩ b _ (show b ≠ ib by omega)⟩,?_⟩
  have h1:=Below.trans (Below.mono HG2.out (Nat.le_of_lt HLT.out)) (Below.mono (grow_new w2 (.cells #[.int .i64 q] 3)) (Nat.le_of_lt (heap_lt HV.out)));exact Below.setCell (Below.trans h1 (Below.mono HB5.out (Nat.le_succ _))) (Nat.le_refl _) _
theorem alld_good {l:List (Int × Int)} {k:Nat} (h:k < l.length):l.take (k + 1) = l.take k ++ [l.getD k (0,0)]:=by
 rw [List.take_add_one];congr 1;simp [List.getD,h]
def FindsL (ib:Nat) (l:List (Int × Int)) (w:World) (e:Ending) (w':World):Prop :=
 ∃ (j:Int) (xs:List Int),e = .returned (.int .i64 j) ∧ decide (0 ≤ j) = !(l.all whlB) ∧ IntsVar ib xs w' ∧ (l.all whlB = true → xs = l.map whlV) ∧ Below ib w w'
theorem indexl_any (A:Option Addr) (n c ib:Nat) (l:List (Int × Int)) (w:World) (hn:l.length = n) (hm:n ≤ 1100000) (hi:∀ x ∈ l,In x.1 ∧ In x.2) (hv:IntsVar ib [] w) (hr:Decs w ib A l) :
  Calls Tryz.prog 85 #[.slice A n c,.func (.func 86) #[] #[.pointer (some ⟨ib,0,none⟩)]] w (FindsL ib l w):=by
 have HR:=Hh hr;have HN:=Hh hn;have HI:=Hh hi;have HV:=Hh hv;clear hr hn hi hv
 go_enter Tryz.func85,Tryz.ntmps85
 go_wp2
 go_loopg [8] n (fun g s8 wr => ∃ k:Nat,k ≤ n ∧ g = n - k ∧ s8 = .int .i64 k ∧ Hid ((l.drop k).all whlB = l.all whlB) ∧ Hid (IntsVar ib ((l.take k).map whlV) wr) ∧ Hid (Below ib w wr))
 case atStart => exact ⟨0,Nat.zero_le _,rfl,rfl,Hh rfl,HV,Hh (Below.refl _ _)⟩
 case round =>
  obtain ⟨k,hk,rfl,rfl,HA,HX,HG⟩:=hrel
  by_cases hlt:k < n
  ·have hlti:((k:Nat):Int) < ((n:Nat):Int):=by omega
   have hkl:k < l.length:=by rw [HN.out];exact hlt
   obtain ⟨b,off,rfl,hb,hcl⟩:=HR.out.below HG.out (by omega)
   obtain ⟨hc1,hc2⟩:=hcl k hkl;have HT:=Hh (fun h => alld_drop (p:=whlB) hkl h);have HF:=Hh (fun h => alld_fails (p:=whlB) hkl h);have HTK:=Hh (alld_good hkl);have hin:=in_at HI.out k;have HLT:Hid (((l.take k).map whlV).length ≤ 1100000):=Hh (by rw [List.length_map,List.length_take];omega)
   clear hcl hkl hb;generalize l.getD k (0,0) = x at hc1 hc2 HT HF hin HTK;obtain ⟨x1,x2⟩:=x;dsimp only at hc1 hc2 hin;have HC:=Hh (least1_any x1 x2 ib _ wr hin.1 hin.2 HLT.out HX.out)
   cases hx:whlB (x1,x2) with
   | true =>
    have HT':=Hh (HT.out hx);rw [hx] at HC;clear hx HT HF hin;go_wp2_with (go_at_call 86;refine (HC.out).mono ?_;rintro e w2 ⟨rfl,hv2,hb2⟩)
    go_roundg (n - (k + 1))
    case rel => exact ⟨k + 1,by omega,rfl,by go_num,Hh (HT'.out.symm.trans HA.out),Hh (by rw [HTK.out,List.map_append];exact hv2),Hh (Below.trans HG.out hb2)⟩
    case measure => omega
   | false =>
    have HF':=Hh (HF.out hx);rw [hx] at HC;clear hx HT HF hin;go_wp2_with (go_at_call 86;refine (HC.out).mono ?_;rintro e w2 ⟨rfl,hv2,hb2⟩)
    go_ret;refine ⟨_,_,rfl,?_,hv2,fun h => ?_,Below.trans HG.out hb2⟩
    ·rw [← HA.out,HF'.out]
     simp
    ·rw [← HA.out,HF'.out] at h
     cases h
  ·obtain rfl:n = k:=by omega
   have HF:=Hh (show l.all whlB = true by rw [← HA.out,List.drop_of_length_le (by rw [HN.out];exact Nat.le_refl _)];rfl)
   have HTA:=Hh (show l.take n = l from List.take_of_length_le (by rw [HN.out];exact Nat.le_refl _))
   rw [HTA.out] at HX;go_wp2;go_ret;refine ⟨_,_,rfl,?_,HX.out,fun _ => rfl,HG.out⟩;rw [HF.out];rfl
def HasL (ib:Nat) (l:List (Int × Int)) (w:World) (e:Ending) (w':World):Prop :=
 ∃ xs:List Int,e = .returned (.bool (!(l.all whlB))) ∧ IntsVar ib xs w' ∧ (l.all whlB = true → xs = l.map whlV) ∧ Below ib w w'
theorem containsl_any (A:Option Addr) (n c ib:Nat) (l:List (Int × Int)) (w:World) (hn:l.length = n) (hm:n ≤ 1100000) (hi:∀ x ∈ l,In x.1 ∧ In x.2) (hv:IntsVar ib [] w) (hr:Decs w ib A l) :
  Calls Tryz.prog 44 #[.slice A n c,.func (.func 86) #[] #[.pointer (some ⟨ib,0,none⟩)]] w (HasL ib l w):=by
 have HI:=Hh (indexl_any A n c ib l w hn hm hi hv hr);clear hn hr hi hv;obtain ⟨β,hβ⟩:∃ β,l.all whlB = β:=⟨_,rfl⟩;have HB:=Hh hβ;clear hβ
 go_enter Tryz.func44,Tryz.ntmps44
 go_wp2_with fail;refine (HI.out).mono ?_;rintro e w2 ⟨j,xs,rfl,hj,hv2,hx2,hb2⟩;rw [HB.out] at hj;have HV2:=Hh hv2;have HX2:=Hh hx2;have HB2:=Hh hb2;clear hv2 hx2 hb2
 cases β with
 | false =>
  have hj':(0:Int) ≤ j:=by simpa using hj
  clear hj;go_wp2;go_ret;exact ⟨xs,by rw [HB.out];simp [hj'],HV2.out,HX2.out,HB2.out⟩
 | true =>
  have hj':¬ (0:Int) ≤ j:=by simpa using hj
  clear hj;go_wp2;go_ret;exact ⟨xs,by rw [HB.out];simp [hj'],HV2.out,HX2.out,HB2.out⟩
def LeastP (T:Nat → Prop) (n:Nd) (w:World) (e:Ending) (w':World):Prop:=∃ v,e = .returned v ∧ NdV T w' v n ∧ Grow w w'
theorem least_any (T:Nat → Prop) (A1:Option Addr) (n1 c1:Nat) (s:List Int) (A:Option Addr) (n c:Nat) (l:List (Int × Int)) (w:World) (hT:∀ b,w.heap.size ≤ b → T b) (hs:s.length = n1) (hsh:NumsT T w A1 s)
  (hn:l.length = n) (hm:n ≤ 1100000) (hi:∀ x ∈ l,In x.1 ∧ In x.2) (hr:DecsT T w A l) :
  Calls Tryz.prog 45 #[.slice A1 n1 c1,.slice A n c] w (LeastP T (leastN s l) w):=by
 have hmf:∀ (fn:Fn) (first cap:Array Value) (w:World),(Instr.makeFunc fn first cap).run Tryz.prog w = .ok (.func fn first cap) w:=fun _ _ _ _ => rfl;obtain ⟨rb,hrb⟩:∃ rb,w.heap.size = rb:=⟨_,rfl⟩
 let wA:=(w.alloc (.cells #[.int .i64 0,.slice none 0 0,.slice none 0 0,.slice none 0 0] 34)).alloc (.cells #[.slice none 0 0] 31)
 have hgA:Grow w wA:=grow_new2 _ _ _;have hrbx:BoxN wA rb 0 none 0 0 none 0 0 none 0 0:=by
  rw [← hrb];exact (boxN_new w 0 none 0 0 none 0 0 none 0 0).grow (grow_new _ _)
 have hva:IntsVar (rb + 1) [] wA:=by
  refine ⟨.slice none 0 0,?_,ownI_nil _ _⟩;have h:=heap_alloc_new (w.alloc (.cells #[.int .i64 0,.slice none 0 0,.slice none 0 0,.slice none 0 0] 34)) (.cells #[.slice none 0 0] 31);rw [show (w.alloc (.cells #[.int .i64 0,.slice none 0 0,.slice none 0 0,.slice none 0 0] 34)).heap.size = rb + 1 by simp [hrb]] at h
  exact h
 have hszA:wA.heap.size = rb + 2:=by simp [wA,hrb]
 have hdec:Decs wA (rb + 1) A l:=(hr.decs.below (Below.mono hgA (Nat.le_refl _))).more (by omega)
 have HC:=Hh (containsl_any A n c (rb + 1) l wA hn hm hi hva hdec);have HGA:=Hh hgA;have HRB:=Hh hrbx;have HSA:=Hh hszA;have HSH:=Hh hsh;have HD:=Hh hr;have HN:=Hh hn;have HS:=Hh hs;have HTT:=Hh hT;have HRE:=Hh hrb;have HLL:Hid (leastN s l = if l.all whlB = true then ⟨kindI (l.map whlV),s,l.map whlV,[]⟩ else ⟨4,s,[],l⟩):=Hh rfl
 have HLM:Hid ((l.map whlV).length = n):=Hh (by rw [List.length_map];exact hn)
 have hsz1:(w.alloc (.cells #[.int .i64 0,.slice none 0 0,.slice none 0 0,.slice none 0 0] 34)).heap.size = rb + 1:=by simp [hrb]
 clear hgA hrbx hva hszA hdec hr hn hs hT hi hsh;obtain ⟨β,hβ⟩:∃ β,l.all whlB = β:=⟨_,rfl⟩;rw [hβ] at HLL
 have HC':Hid (Calls Tryz.prog 44 #[.slice A n c,.func (.func 86) #[] #[.pointer (some ⟨rb + 1,0,none⟩)]] wA
   fun e w' => ∃ xs:List Int,e = .returned (.bool (!β)) ∧ IntsVar (rb + 1) xs w' ∧ (β = true → xs = l.map whlV) ∧ Below (rb + 1) wA w'):=by rw [← hβ];exact HC
 clear hβ HC
 go_enter Tryz.func45,Tryz.ntmps45
 go_wp2_with fail;refine (HC'.out).mono ?_;rintro e w2 ⟨xs,rfl,hv2,hx2,hb2⟩;have hrbx2:BoxN w2 rb 0 none 0 0 none 0 0 none 0 0:=(hb2.block rb (Nat.lt_succ_self _)).trans HRB.out;have HGW:Hid (Grow w w2):=Hh (Below.trans HGA.out (Below.mono hb2 (by rw [HRE.out];exact Nat.le_succ _)))
 have HRB2:=Hh hrbx2;have f0:=hrbx2.froz 0;have f1:=hrbx2.froz 1;have f2:=hrbx2.froz 2;have f3:=hrbx2.froz 3;have c0:=hrbx2.at0;have c1':=hrbx2.at1;have c2:=hrbx2.at2;have c3:=hrbx2.at3;clear hb2 HC' HGA HRB HSA hrbx2 hsz1
 cases β with
 | false =>
  have HL:Hid (leastN s l = ⟨4,s,[],l⟩):=Hh (by rw [HLL.out];exact if_neg (by decide))
  clear hv2 hx2 HLL HLM;go_wp2;have hb:=HRB2.out.store 4 A1 none A n1 c1 0 0 n c;have hg:=HGW.out.trans (show Grow w2 w2 from Grow.refl _);refine bodyPost_ret (v:=.agg #[.int .i64 4,.slice A1 n1 c1,.slice none 0 0,.slice A n c]) (by simp [results,Tryz.results45,go_sem,hb.at0,hb.at1,hb.at2,hb.at3]) rfl ?_
  have HG4:Grow w ((((w2.setCell ⟨rb,0,none⟩ (.int .i64 4)).setCell ⟨rb,1,none⟩ (.slice A1 n1 c1)).setCell ⟨rb,2,none⟩ (.slice none 0 0)).setCell ⟨rb,3,none⟩ (.slice A n c)):=by
   have hle:w.heap.size ≤ rb:=by rw [HRE.out];exact Nat.le_refl _
   exact (((HGW.out.put hle 0 _).put hle 1 _).put hle 2 _).put hle 3 _
  exact ⟨_,rfl,⟨A1,c1,none,0,A,c,by rw [HL.out,HS.out,HN.out];rfl,by rw [HL.out];exact HSH.out.grow HG4,by rw [HL.out];exact NumsT.nil_,by rw [HL.out];exact HD.out.grow HG4⟩,HG4⟩
 | true =>
  have hxe:=hx2 rfl;subst hxe;have HL:Hid (leastN s l = ⟨kindI (l.map whlV),s,l.map whlV,[]⟩):=Hh (by rw [HLL.out];exact if_pos rfl)
  clear hx2 HLL;generalize l.map whlV = xs at *;obtain ⟨v,hv,hown⟩:=hv2;obtain ⟨A2,c2',rfl,hc2',hnew⟩:=hown.new;rw [HLM.out] at hv;have HV:=Hh hv;have HNW:=Hh hnew;clear hv hnew hown hc2';go_wp2;refine wp_region_R ((Kept (fun k => k = rb))) (n:=6) rfl (by kernel_rfl) ?_
  intro W0 hW0e hW0;have HW0:=Hh hW0;have v0:∀ wg,Kept (fun k => k = rb) W0 wg → wg.cell? ⟨rb + 1,0,none⟩ = some (.slice A2 n c2'):=fun wg h => by
   have h1:=(HW0.out.block (rb + 1) (heap_lt HV.out)).trans HV.out;exact cell_of_row wg (rb + 1) 0 _ _ (0,0) ((h.block (rb + 1) (heap_lt h1) (by show ¬ rb + 1 = rb;omega)).trans h1)
  clear hW0e;refine wpR_take (keptOrd (fun k => k = rb)) (i:=0) (v:=?vf1) rfl (by kernel_rfl) (by kernel_rfl) (by kernel_rfl) (fun _ _ _ h => h) (by rfl) ?hf1 ?rf1
  case hf1 => (intro wg hSw;go_simp <;> with_reducible rfl)
  simp only [Act.put,List.setIfInBounds_toArray,List.set_cons_zero,List.set_cons_succ];refine wpR_take (keptOrd (fun k => k = rb)) (i:=2) (v:=?vf2) rfl (by kernel_rfl) (by kernel_rfl) (by kernel_rfl) (fun _ _ _ h => h) (by rfl) ?hf2 ?rf2
  case hf2 => (intro wg hSw;go_simp <;> with_reducible rfl)
  simp only [Act.put,List.setIfInBounds_toArray,List.set_cons_zero,List.set_cons_succ];refine wpR_take (keptOrd (fun k => k = rb)) (i:=3) (v:=?vf3) rfl (by kernel_rfl) (by kernel_rfl) (by kernel_rfl) (fun _ _ _ h => h) (by rfl) ?hf3 ?rf3
  case hf3 => (intro wg hSw;go_simp <;> with_reducible rfl)
  simp only [Act.put,List.setIfInBounds_toArray,List.set_cons_zero,List.set_cons_succ];refine wpR_one (i:=1) (by kernel_rfl) ?_
  refine wpR_op (i:=1) rfl (by rfl) (fun K hK => ?_)
  go_simp;refine (kindOf_any A2 n c2' xs _ HLM.out (by omega) (HNW.out.nums.grow HW0.out)).mono ?_
  rintro e wM1 ⟨rfl,hE1⟩;have hM1:Kept (fun k => k = rb) W0 wM1:=by rw [hE1];exact Kept.refl _ _
  have hbm:BoxN wM1 rb 0 none 0 0 none 0 0 none 0 0:=by rw [hE1];exact HRB2.out.grow HW0.out
  have f0':=hbm.froz 0;have f1':=hbm.froz 1;have f2':=hbm.froz 2;have f3':=hbm.froz 3;have d0:=hbm.at0;have d1:=hbm.at1;have d2:=hbm.at2;have d3:=hbm.at3;have HBM:=Hh hbm;have HGM:Hid (Grow w wM1):=Hh (by rw [hE1];exact HGW.out.trans HW0.out)
  have HE1:Hid (Grow w2 wM1):=Hh (by rw [hE1];exact HW0.out)
  clear hE1 hbm;refine hK.out _ _ hM1 ?_;clear hK K
  try simp only [Act.put,List.setIfInBounds_toArray,List.set_cons_zero,List.set_cons_succ]
  refine wpR_take (keptOrd (fun k => k = rb)) (i:=4) (v:=?vf4) rfl (by kernel_rfl) (by kernel_rfl) (by kernel_rfl) (fun _ _ _ h => h) (by rfl) ?hf4 ?rf4
  case hf4 => (intro wg hSw;go_simp <;> with_reducible rfl)
  simp only [Act.put,List.setIfInBounds_toArray,List.set_cons_zero,List.set_cons_succ];refine wpR_one (i:=5) (by kernel_rfl) ?_
  refine wpR_op (i:=5) rfl (by rfl) (fun K hK => ?_)
  go_simp;refine hK.out _ _ (kept_store _ _ _ _) ?_;clear hK K
  try simp only [Act.put,List.setIfInBounds_toArray,List.set_cons_zero,List.set_cons_succ]
  have hb:=HBM.out.store (kindI xs) A1 A2 none n1 c1 n c2' 0 0;have HG4:Grow w ((((wM1.setCell ⟨rb,0,none⟩ (.int .i64 (kindI xs))).setCell ⟨rb,1,none⟩ (.slice A1 n1 c1)).setCell ⟨rb,2,none⟩ (.slice A2 n c2')).setCell ⟨rb,3,none⟩ (.slice none 0 0)):=by
   have hle:w.heap.size ≤ rb:=by rw [HRE.out];exact Nat.le_refl _
   exact (((HGM.out.put hle 0 _).put hle 1 _).put hle 2 _).put hle 3 _
  have hnew4:NumsT T ((((wM1.setCell ⟨rb,0,none⟩ (.int .i64 (kindI xs))).setCell ⟨rb,1,none⟩ (.slice A1 n1 c1)).setCell ⟨rb,2,none⟩ (.slice A2 n c2')).setCell ⟨rb,3,none⟩ (.slice none 0 0)) A2 xs:=by
   refine (HNW.out.grow HE1.out).keep fun b hb => ⟨HTT.out b (by rw [HRE.out];omega),?_⟩
   have hne:¬ b = rb:=by omega
   exact (kept_store (w:=wM1) (b:=rb) (.int .i64 (kindI xs)) (.slice A1 n1 c1) (.slice A2 n c2') (.slice none 0 0)).block b hb.2 hne
  have HB4:=Hh hb;have HG4':=Hh HG4;have HN4:=Hh hnew4;clear hb HG4 hnew4 f0 f1 f2 f3 c0 c1' c2 c3 f0' f1' f2' f3' d0 d1 d2 d3 v0;generalize hw5:World.setCell _ _ _ = wM5 at *;have hM5:Kept (fun k => k = rb) wM1 wM5:=by rw [← hw5];exact kept_store _ _ _ _
  refine wpR_done (by kernel_rfl) ?_
  go_wp2;refine bodyPost_ret (v:=.agg #[.int .i64 (kindI xs),.slice A1 n1 c1,.slice A2 n c2',.slice none 0 0]) (by simp [results,Tryz.results45,go_sem,HB4.out.at0,HB4.out.at1,HB4.out.at2,HB4.out.at3]) rfl ?_
  exact ⟨_,rfl,⟨A1,c1,A2,c2',none,0,by rw [HL.out,HS.out,HLM.out];rfl,by rw [HL.out];exact HSH.out.grow HG4'.out,by rw [HL.out];exact HN4.out,by rw [HL.out];exact DecsT.nil_⟩,HG4'.out⟩
open Go.RowKit Go.Lib
theorem deep1_any (n:Nd) (A1 A2 A3:Option Addr) (c1 c2 c3:Nat) (w:World) :
  Calls Tryz.prog 164 #[.agg #[.int .i64 n.kind,.slice A1 n.shp.length c1,.slice A2 n.ints.length c2,.slice A3 n.decs.length c3]] w (Says (deepB n) w):=by
 obtain ⟨k,sh,xs,ds⟩:=n;dsimp only;obtain ⟨l,hl⟩:∃ l,sh.length = l:=⟨_,rfl⟩;have e:deepB ⟨k,sh,xs,ds⟩ = (k == 5 || decide (0 < l)):=by rw [← hl];rfl
 rw [e,hl];clear e hl;have HB:=boxN_new w k A1 l c1 A2 xs.length c2 A3 ds.length c3;have b0:=HB.at0;have b1:=HB.at1;have HG:=Hh (grow_new w (.cells #[.int .i64 k,.slice A1 l c1,.slice A2 xs.length c2,.slice A3 ds.length c3] 34));clear HB
 by_cases h5:k = 5
 ·subst h5
  go_enter Tryz.func164,Tryz.ntmps164
  go_wp2;go_ret;exact ⟨rfl,HG.out⟩
 ·have h5':(k == 5) = false:=by simpa using h5
  rw [h5',Bool.false_or]
  by_cases h0:0 < l
  ·have hi:(0:Int) < ((l:Nat):Int):=by omega
   rw [decide_eq_true h0]
   go_enter Tryz.func164,Tryz.ntmps164
   go_wp2;go_ret;exact ⟨rfl,HG.out⟩
  ·obtain rfl:l = 0:=by omega
   go_enter Tryz.func164,Tryz.ntmps164
   go_wp2;go_ret;exact ⟨rfl,HG.out⟩
theorem sign1_any (n:Nd) (A1 A2 A3:Option Addr) (c1 c2 c3:Nat) (w:World) :
  Calls Tryz.prog 165 #[.agg #[.int .i64 n.kind,.slice A1 n.shp.length c1,.slice A2 n.ints.length c2,.slice A3 n.decs.length c3]] w (Says (signN n) w):=by
 obtain ⟨k,sh,xs,ds⟩:=n;dsimp only;have e:signN ⟨k,sh,xs,ds⟩ = (k == 3):=rfl;rw [e];have HB:=boxN_new w k A1 sh.length c1 A2 xs.length c2 A3 ds.length c3;have b0:=HB.at0;have HG:=Hh (grow_new w (.cells #[.int .i64 k,.slice A1 sh.length c1,.slice A2 xs.length c2,.slice A3 ds.length c3] 34));clear HB e
 by_cases h3:k = 3
 ·subst h3
  go_enter Tryz.func165,Tryz.ntmps165
  go_wp2;go_ret;exact ⟨rfl,HG.out⟩
 ·have h3':(k == 3) = false:=by simpa using h3
  rw [h3']
  go_enter Tryz.func165,Tryz.ntmps165
  go_wp2;go_ret;exact ⟨rfl,HG.out⟩
def SignVar (w:World) (pb:Nat):Prop:=w.heap[pb]? = some (.cells #[.func (.func 165) #[] #[]] 166 (0,0))
theorem SignVar.grow {w w':World} {pb:Nat} (h:SignVar w pb) (hg:Grow w w'):SignVar w' pb:=(hg.block pb (heap_lt h)).trans h
theorem SignVar.at_ {w:World} {pb:Nat} (h:SignVar w pb):w.cell? ⟨pb,0,none⟩ = some (.func (.func 165) #[] #[]):=cell_of_row w pb 0 _ _ (0,0) h
theorem num1_any (n:Nd) (A1 A2 A3:Option Addr) (c1 c2 c3:Nat) (pb:Nat) (w:World) (hp:SignVar w pb) :
  Calls Tryz.prog 166 #[.agg #[.int .i64 n.kind,.slice A1 n.shp.length c1,.slice A2 n.ints.length c2,.slice A3 n.decs.length c3],.pointer (some ⟨pb,0,none⟩)] w (Says (numN n) w):=by
 have HC:=Hh (fun W => sign1_any n A1 A2 A3 c1 c2 c3 W);have e:numN n = !signN n:=rfl;rw [e];generalize signN n = β at *;clear e;obtain ⟨k,sh,xs,ds⟩:=n;dsimp only at HC;dsimp only;have HB:=boxN_new w k A1 sh.length c1 A2 xs.length c2 A3 ds.length c3;have b0:=HB.at0;have b1:=HB.at1;have b2:=HB.at2;have b3:=HB.at3;have HG:=Hh (grow_new w (.cells #[.int .i64 k,.slice A1 sh.length c1,.slice A2 xs.length c2,.slice A3 ds.length c3] 34));have p0:=(hp.grow HG.out).at_;clear HB hp
 cases β with
 | true =>
  go_enter Tryz.func166,Tryz.ntmps166
  go_wp2_with (go_at_call 165;refine (HC.out _).mono ?_;rintro e w2 ⟨rfl,hw2⟩)
  go_ret;exact ⟨rfl,HG.out.trans hw2⟩
 | false =>
  go_enter Tryz.func166,Tryz.ntmps166
  go_wp2_with (go_at_call 165;refine (HC.out _).mono ?_;rintro e w2 ⟨rfl,hw2⟩)
  go_ret;exact ⟨rfl,HG.out.trans hw2⟩
theorem any_none {p:Nd → Bool} {xs:List Nd} {k:Nat} (h:k < xs.length) (hx:p (xs.getD k nd0) = false):(xs.drop k).any p = (xs.drop (k + 1)).any p:=by
 rw [drop_nd h,List.any_cons,hx,Bool.false_or]
theorem any_some {p:Nd → Bool} {xs:List Nd} {k:Nat} (h:k < xs.length) (hx:p (xs.getD k nd0) = true):(xs.drop k).any p = true:=by
 rw [drop_nd h,List.any_cons,hx,Bool.true_or]
def FindsN (β:Bool) (w:World) (e:Ending) (w':World):Prop:=∃ j:Int,e = .returned (.int .i64 j) ∧ decide (0 ≤ j) = β ∧ Grow w w'
theorem index_deep_any (A:Option Addr) (n c:Nat) (xs:List Nd) (w:World) (hn:xs.length = n) (hm:n ≤ 1100000) (hr:Nodes w w.heap.size A xs) :
  Calls Tryz.prog 182 #[.slice A n c,.func (.func 164) #[] #[]] w (FindsN (xs.any deepB) w):=by
 have HR:=Hh hr;have HN:=Hh hn
 skip
 clear hr hn
 go_enter Tryz.func182,Tryz.ntmps182
 go_wp2
 go_loopg [8] n (fun g s8 wr => ∃ k:Nat,k ≤ n ∧ g = n - k ∧ s8 = .int .i64 k ∧ Hid ((xs.drop k).any deepB = xs.any deepB) ∧ Hid (Grow w wr))
 case atStart => exact ⟨0,Nat.zero_le _,rfl,rfl,Hh rfl,Hh (Grow.refl _)⟩
 case round =>
  obtain ⟨k,hk,rfl,rfl,HA,HG⟩:=hrel
  by_cases hlt:k < n
  ·have hlti:((k:Nat):Int) < ((n:Nat):Int):=by omega
   have hkl:k < xs.length:=by rw [HN.out];exact hlt
   obtain ⟨b,off,rfl,hb,hc⟩:=HR.out.grow HG.out (by omega)
   obtain ⟨A1,c1,A2,c2,A3,c3,p0,p1,p2,p3,hnd⟩:=hc k hkl;have HT:=Hh (fun h => any_some (p:=deepB) hkl h);have HF:=Hh (fun h => any_none (p:=deepB) hkl h);clear hc hb hnd hkl;generalize xs.getD k nd0 = x at p0 p1 p2 p3 HT HF;have HC:=Hh (deep1_any x A1 A2 A3 c1 c2 c3 wr)
   cases hx:deepB x with
   | true =>
    have HT':=Hh (HT.out hx);rw [hx] at HC;clear hx HT HF;go_wp2_with (go_at_call 164;refine (HC.out).mono ?_;rintro e w2 ⟨rfl,hg2⟩)
    go_ret;refine ⟨_,rfl,?_,HG.out.trans hg2⟩;rw [← HA.out,HT'.out];simp
   | false =>
    have HF':=Hh (HF.out hx);rw [hx] at HC;clear hx HT HF;go_wp2_with (go_at_call 164;refine (HC.out).mono ?_;rintro e w2 ⟨rfl,hg2⟩)
    go_roundg (n - (k + 1))
    case rel => exact ⟨k + 1,by omega,rfl,by go_num,Hh (HF'.out.symm.trans HA.out),Hh (HG.out.trans hg2)⟩
    case measure => omega
  ·obtain rfl:n = k:=by omega
   have HF:=Hh (show xs.any deepB = false by rw [← HA.out,List.drop_of_length_le (by rw [HN.out];exact Nat.le_refl _)];rfl)
   go_wp2;go_ret;refine ⟨_,rfl,?_,HG.out⟩;rw [HF.out];rfl
theorem contains_deep_any (A:Option Addr) (n c:Nat) (xs:List Nd) (w:World) (hn:xs.length = n) (hm:n ≤ 1100000) (hr:Nodes w w.heap.size A xs) :
  Calls Tryz.prog 163 #[.slice A n c,.func (.func 164) #[] #[]] w (Says (xs.any deepB) w):=by
 have HI:=Hh (index_deep_any A n c xs w hn hm hr);clear hn hr;generalize xs.any deepB = β at *
 go_enter Tryz.func163,Tryz.ntmps163
 go_wp2_with fail;refine (HI.out).mono ?_;rintro e w2 ⟨j,rfl,hj,hg⟩
 cases β with
 | true =>
  have hj':(0:Int) ≤ j:=by simpa using hj
  have hj2:decide (j ≥ 0) = true:=by simpa using hj'
  clear hj;go_wp2;go_ret;exact ⟨by simp [hj'],hg⟩
 | false =>
  have hj':¬ (0:Int) ≤ j:=by simpa using hj
  clear hj;go_wp2;go_ret;exact ⟨by simp [hj'],hg⟩
theorem has_deep_any (A:Option Addr) (n c kb:Nat) (xs:List Nd) (w:World) (hn:xs.length = n) (hm:n ≤ 1100000) (hr:Nodes w w.heap.size A xs) (hk:w.cell? ⟨kb,0,none⟩ = some (.slice A n c)) :
  Calls Tryz.prog 162 #[.func (.func 164) #[] #[],.pointer (some ⟨kb,0,none⟩)] w (Says (xs.any deepB) w):=by
 have HI:=Hh (contains_deep_any A n c xs w hn hm hr);clear hn hr;generalize xs.any deepB = β at *
 go_enter Tryz.func162,Tryz.ntmps162
 go_wp2_with fail;refine (HI.out).mono ?_;rintro e w2 ⟨rfl,hg⟩;go_wp2;go_ret;exact ⟨rfl,hg⟩
theorem index_sign_any (A:Option Addr) (n c:Nat) (xs:List Nd) (w:World) (hn:xs.length = n) (hm:n ≤ 1100000) (hr:Nodes w w.heap.size A xs) :
  Calls Tryz.prog 182 #[.slice A n c,.func (.func 165) #[] #[]] w (FindsN (xs.any signN) w):=by
 have HR:=Hh hr;have HN:=Hh hn
 skip
 clear hr hn
 go_enter Tryz.func182,Tryz.ntmps182
 go_wp2
 go_loopg [8] n (fun g s8 wr => ∃ k:Nat,k ≤ n ∧ g = n - k ∧ s8 = .int .i64 k ∧ Hid ((xs.drop k).any signN = xs.any signN) ∧ Hid (Grow w wr))
 case atStart => exact ⟨0,Nat.zero_le _,rfl,rfl,Hh rfl,Hh (Grow.refl _)⟩
 case round =>
  obtain ⟨k,hk,rfl,rfl,HA,HG⟩:=hrel
  by_cases hlt:k < n
  ·have hlti:((k:Nat):Int) < ((n:Nat):Int):=by omega
   have hkl:k < xs.length:=by rw [HN.out];exact hlt
   obtain ⟨b,off,rfl,hb,hc⟩:=HR.out.grow HG.out (by omega)
   obtain ⟨A1,c1,A2,c2,A3,c3,p0,p1,p2,p3,hnd⟩:=hc k hkl;have HT:=Hh (fun h => any_some (p:=signN) hkl h);have HF:=Hh (fun h => any_none (p:=signN) hkl h);clear hc hb hnd hkl;generalize xs.getD k nd0 = x at p0 p1 p2 p3 HT HF;have HC:=Hh (sign1_any x A1 A2 A3 c1 c2 c3 wr)
   cases hx:signN x with
   | true =>
    have HT':=Hh (HT.out hx);rw [hx] at HC;clear hx HT HF;go_wp2_with (go_at_call 165;refine (HC.out).mono ?_;rintro e w2 ⟨rfl,hg2⟩)
    go_ret;refine ⟨_,rfl,?_,HG.out.trans hg2⟩;rw [← HA.out,HT'.out];simp
   | false =>
    have HF':=Hh (HF.out hx);rw [hx] at HC;clear hx HT HF;go_wp2_with (go_at_call 165;refine (HC.out).mono ?_;rintro e w2 ⟨rfl,hg2⟩)
    go_roundg (n - (k + 1))
    case rel => exact ⟨k + 1,by omega,rfl,by go_num,Hh (HF'.out.symm.trans HA.out),Hh (HG.out.trans hg2)⟩
    case measure => omega
  ·obtain rfl:n = k:=by omega
   have HF:=Hh (show xs.any signN = false by rw [← HA.out,List.drop_of_length_le (by rw [HN.out];exact Nat.le_refl _)];rfl)
   go_wp2;go_ret;refine ⟨_,rfl,?_,HG.out⟩;rw [HF.out];rfl
theorem contains_sign_any (A:Option Addr) (n c:Nat) (xs:List Nd) (w:World) (hn:xs.length = n) (hm:n ≤ 1100000) (hr:Nodes w w.heap.size A xs) :
  Calls Tryz.prog 163 #[.slice A n c,.func (.func 165) #[] #[]] w (Says (xs.any signN) w):=by
 have HI:=Hh (index_sign_any A n c xs w hn hm hr);clear hn hr;generalize xs.any signN = β at *
 go_enter Tryz.func163,Tryz.ntmps163
 go_wp2_with fail;refine (HI.out).mono ?_;rintro e w2 ⟨j,rfl,hj,hg⟩
 cases β with
 | true =>
  have hj':(0:Int) ≤ j:=by simpa using hj
  have hj2:decide (j ≥ 0) = true:=by simpa using hj'
  clear hj;go_wp2;go_ret;exact ⟨by simp [hj'],hg⟩
 | false =>
  have hj':¬ (0:Int) ≤ j:=by simpa using hj
  clear hj;go_wp2;go_ret;exact ⟨by simp [hj'],hg⟩
theorem has_sign_any (A:Option Addr) (n c kb:Nat) (xs:List Nd) (w:World) (hn:xs.length = n) (hm:n ≤ 1100000) (hr:Nodes w w.heap.size A xs) (hk:w.cell? ⟨kb,0,none⟩ = some (.slice A n c)) :
  Calls Tryz.prog 162 #[.func (.func 165) #[] #[],.pointer (some ⟨kb,0,none⟩)] w (Says (xs.any signN) w):=by
 have HI:=Hh (contains_sign_any A n c xs w hn hm hr);clear hn hr;generalize xs.any signN = β at *
 go_enter Tryz.func162,Tryz.ntmps162
 go_wp2_with fail;refine (HI.out).mono ?_;rintro e w2 ⟨rfl,hg⟩;go_wp2;go_ret;exact ⟨rfl,hg⟩
theorem index_num_any (A:Option Addr) (n c:Nat) (xs:List Nd) (w:World) (hn:xs.length = n) (hm:n ≤ 1100000) (hr:Nodes w w.heap.size A xs) (pb:Nat) (hp:SignVar w pb) :
  Calls Tryz.prog 182 #[.slice A n c,.func (.func 166) #[] #[.pointer (some ⟨pb,0,none⟩)]] w (FindsN (xs.any numN) w):=by
 have HR:=Hh hr;have HN:=Hh hn;have HP:=Hh hp;clear hr hn hp
 go_enter Tryz.func182,Tryz.ntmps182
 go_wp2
 go_loopg [8] n (fun g s8 wr => ∃ k:Nat,k ≤ n ∧ g = n - k ∧ s8 = .int .i64 k ∧ Hid ((xs.drop k).any numN = xs.any numN) ∧ Hid (Grow w wr))
 case atStart => exact ⟨0,Nat.zero_le _,rfl,rfl,Hh rfl,Hh (Grow.refl _)⟩
 case round =>
  obtain ⟨k,hk,rfl,rfl,HA,HG⟩:=hrel
  by_cases hlt:k < n
  ·have hlti:((k:Nat):Int) < ((n:Nat):Int):=by omega
   have hkl:k < xs.length:=by rw [HN.out];exact hlt
   obtain ⟨b,off,rfl,hb,hc⟩:=HR.out.grow HG.out (by omega)
   obtain ⟨A1,c1,A2,c2,A3,c3,p0,p1,p2,p3,hnd⟩:=hc k hkl;have HT:=Hh (fun h => any_some (p:=numN) hkl h);have HF:=Hh (fun h => any_none (p:=numN) hkl h);clear hc hb hnd hkl;generalize xs.getD k nd0 = x at p0 p1 p2 p3 HT HF;have HC:=Hh (num1_any x A1 A2 A3 c1 c2 c3 pb wr (HP.out.grow HG.out))
   cases hx:numN x with
   | true =>
    have HT':=Hh (HT.out hx);rw [hx] at HC;clear hx HT HF;go_wp2_with (go_at_call 166;refine (HC.out).mono ?_;rintro e w2 ⟨rfl,hg2⟩)
    go_ret;refine ⟨_,rfl,?_,HG.out.trans hg2⟩;rw [← HA.out,HT'.out];simp
   | false =>
    have HF':=Hh (HF.out hx);rw [hx] at HC;clear hx HT HF;go_wp2_with (go_at_call 166;refine (HC.out).mono ?_;rintro e w2 ⟨rfl,hg2⟩)
    go_roundg (n - (k + 1))
    case rel => exact ⟨k + 1,by omega,rfl,by go_num,Hh (HF'.out.symm.trans HA.out),Hh (HG.out.trans hg2)⟩
    case measure => omega
  ·obtain rfl:n = k:=by omega
   have HF:=Hh (show xs.any numN = false by rw [← HA.out,List.drop_of_length_le (by rw [HN.out];exact Nat.le_refl _)];rfl)
   go_wp2;go_ret;refine ⟨_,rfl,?_,HG.out⟩;rw [HF.out];rfl
theorem contains_num_any (A:Option Addr) (n c:Nat) (xs:List Nd) (w:World) (hn:xs.length = n) (hm:n ≤ 1100000) (hr:Nodes w w.heap.size A xs) (pb:Nat) (hp:SignVar w pb) :
  Calls Tryz.prog 163 #[.slice A n c,.func (.func 166) #[] #[.pointer (some ⟨pb,0,none⟩)]] w (Says (xs.any numN) w):=by
 have HI:=Hh (index_num_any A n c xs w hn hm hr pb hp);clear hn hr hp;generalize xs.any numN = β at *
 go_enter Tryz.func163,Tryz.ntmps163
 go_wp2_with fail;refine (HI.out).mono ?_;rintro e w2 ⟨j,rfl,hj,hg⟩
 cases β with
 | true =>
  have hj':(0:Int) ≤ j:=by simpa using hj
  have hj2:decide (j ≥ 0) = true:=by simpa using hj'
  clear hj;go_wp2;go_ret;exact ⟨by simp [hj'],hg⟩
 | false =>
  have hj':¬ (0:Int) ≤ j:=by simpa using hj
  clear hj;go_wp2;go_ret;exact ⟨by simp [hj'],hg⟩
theorem has_num_any (A:Option Addr) (n c kb:Nat) (xs:List Nd) (w:World) (hn:xs.length = n) (hm:n ≤ 1100000) (hr:Nodes w w.heap.size A xs) (hk:w.cell? ⟨kb,0,none⟩ = some (.slice A n c)) (pb:Nat) (hp:SignVar w pb) :
  Calls Tryz.prog 162 #[.func (.func 166) #[] #[.pointer (some ⟨pb,0,none⟩)],.pointer (some ⟨kb,0,none⟩)] w (Says (xs.any numN) w):=by
 have HI:=Hh (contains_num_any A n c xs w hn hm hr pb hp);clear hn hr hp;generalize xs.any numN = β at *
 go_enter Tryz.func162,Tryz.ntmps162
 go_wp2_with fail;refine (HI.out).mono ?_;rintro e w2 ⟨rfl,hg⟩;go_wp2;go_ret;exact ⟨rfl,hg⟩
open Go.RowKit Go.Lib
def OneP (T:Nat → Prop) (o:Option Nd) (w:World) (e:Ending) (w':World):Prop :=
 Grow w w' ∧ match o with
  | none => e = .returned (.tuple #[.agg #[.int .i64 0,.slice none 0 0,.slice none 0 0,.slice none 0 0],.bool false])
  | some m => ∃ v,e = .returned (.tuple #[v,.bool true]) ∧ NdV T w' v m
theorem OneP.no {T:Nat → Prop} {o:Option Nd} {w w':World} (h:o = none) (hg:Grow w w'):OneP T o w (.returned (.tuple #[.agg #[.int .i64 0,.slice none 0 0,.slice none 0 0,.slice none 0 0],.bool false])) w':=by subst h;exact ⟨hg,rfl⟩
theorem OneP.yes {T:Nat → Prop} {o:Option Nd} {m:Nd} {v:Value} {w w':World} (h:o = some m) (hg:Grow w w') (hv:NdV T w' v m):OneP T o w (.returned (.tuple #[v,.bool true])) w':=by subst h;exact ⟨hg,v,rfl,hv⟩
theorem NumsT.lt {T:Nat → Prop} {w:World} {A:Option Addr} {xs:List Int} (h:NumsT T w A xs):NumsT (fun b => T b ∧ b < w.heap.size) w A xs:=fun hn => by
 obtain ⟨b,off,e,hb,hc⟩:=h hn;exact ⟨b,off,e,⟨hb,block_lt_of_cell (hc 0 hn)⟩,hc⟩
theorem DecsT.lt {T:Nat → Prop} {w:World} {A:Option Addr} {ds:List (Int × Int)} (h:DecsT T w A ds):DecsT (fun b => T b ∧ b < w.heap.size) w A ds:=fun hn => by
 obtain ⟨b,off,e,hb,hc⟩:=h hn;exact ⟨b,off,e,⟨hb,block_lt_of_cell (hc 0 hn).1⟩,hc⟩
def JoinW (A:Option Addr) (n c kb pb rb:Nat) (ks:List Nd) (w:World):Prop :=
 w.heap[kb]? = some (.cells #[.slice A n c] 22 (0,0)) ∧ SignVar w pb ∧ Nodes w w.heap.size A ks ∧ BoxN w rb 0 none 0 0 none 0 0 none 0 0
theorem JoinW.grow {A:Option Addr} {n c kb pb rb:Nat} {ks:List Nd} {w w':World} (h:JoinW A n c kb pb rb ks w) (hg:Grow w w'):JoinW A n c kb pb rb ks w' :=
 ⟨(hg.block kb (heap_lt h.1)).trans h.1,h.2.1.grow hg,h.2.2.1.grow hg,h.2.2.2.grow hg⟩
theorem join_any (T:Nat → Prop) (A1:Option Addr) (n1 c1:Nat) (s:List Int) (A:Option Addr) (n c:Nat) (ks:List Nd) (w:World) (hT:∀ b,w.heap.size ≤ b → T b) (hs:s.length = n1) (hsh:NumsT T w A1 s)
  (hn:ks.length = n) (hnb:n ≤ 1100000) (hvs:Vals ks) (hvl:(valsK ks).length ≤ 1100000) (hil:(intsK ks).length ≤ 1100000) (hvi:∀ x ∈ valsK ks,In x.1 ∧ In x.2) (hns:Nodes w w.heap.size A ks) :
  Calls Tryz.prog 144 #[.slice A1 n1 c1,.slice A n c] w (OneP T (joinO s ks) w):=by
 have hmf:∀ (fn:Fn) (first cap:Array Value) (w:World),(Instr.makeFunc fn first cap).run Tryz.prog w = .ok (.func fn first cap) w:=fun _ _ _ _ => rfl;obtain ⟨kb,hkb⟩:∃ kb,w.heap.size = kb:=⟨_,rfl⟩
 let wA:=((w.alloc (.cells #[.slice A n c] 22)).alloc (.cells #[.int .i64 0,.slice none 0 0,.slice none 0 0,.slice none 0 0] 34)).alloc (.cells #[.func (.func 165) #[] #[]] 166)
 have hgA:Grow w wA:=grow_new3 _ _ _ _;have hs1:(w.alloc (.cells #[.slice A n c] 22)).heap.size = kb + 1:=by simp [hkb]
 have hs2:((w.alloc (.cells #[.slice A n c] 22)).alloc (.cells #[.int .i64 0,.slice none 0 0,.slice none 0 0,.slice none 0 0] 34)).heap.size = kb + 2:=by simp [hkb]
 have hJA:JoinW A n c kb (kb + 2) (kb + 1) ks wA:=by
  refine ⟨?_,?_,hns.grow hgA,?_⟩
  ·have h:=heap_alloc_new w (.cells #[.slice A n c] 22)
   rw [hkb] at h;exact ((grow_new2 _ _ _).block kb (heap_lt h)).trans h
  ·have h:=heap_alloc_new ((w.alloc (.cells #[.slice A n c] 22)).alloc (.cells #[.int .i64 0,.slice none 0 0,.slice none 0 0,.slice none 0 0] 34)) (.cells #[.func (.func 165) #[] #[]] 166)
   rw [hs2] at h;exact h
  ·have h:=boxN_new (w.alloc (.cells #[.slice A n c] 22)) 0 none 0 0 none 0 0 none 0 0
   rw [hs1] at h;exact h.grow (grow_new _ _)
 have HD:=Hh (fun W (h:JoinW A n c kb (kb + 2) (kb + 1) ks W) => has_deep_any A n c kb ks W hn hnb h.2.2.1 (cell_of_row W kb 0 _ _ (0,0) h.1));have HS:=Hh (fun W (h:JoinW A n c kb (kb + 2) (kb + 1) ks W) => has_sign_any A n c kb ks W hn hnb h.2.2.1 (cell_of_row W kb 0 _ _ (0,0) h.1));have HM:=Hh (fun W (h:JoinW A n c kb (kb + 2) (kb + 1) ks W) => has_num_any A n c kb ks W hn hnb h.2.2.1 (cell_of_row W kb 0 _ _ (0,0) h.1) (kb + 2) h.2.1);have HSG:=Hh (fun W (h:JoinW A n c kb (kb + 2) (kb + 1) ks W) => signs_any A n c ks W hn hnb hil h.2.2.1);have HNM:=Hh (fun W (h:JoinW A n c kb (kb + 2) (kb + 1) ks W) => numbers_any A n c ks W hn hnb hvl hvs h.2.2.1);have HLS:=Hh (fun (W:World) (A':Option Addr) (c':Nat) (hg:Grow w W) (hd:DecsT (fun b => T b ∧ ¬ b = kb + 1) W A' (valsK ks)) (hk:kb + 1 < W.heap.size) => least_any (fun b => T b ∧ ¬ b = kb + 1) A1 n1 c1 s A' (valsK ks).length c' (valsK ks) W (fun b hb => ⟨hT b (Nat.le_trans hg.size hb),by omega⟩) hs ((hsh.lt.keep (T':=fun b => T b ∧ ¬ b = kb + 1) (w':=w) (fun b hb => ⟨⟨hb.1,by have:=hb.2;omega⟩,rfl⟩)).grow hg) rfl hvl hvi hd)
 have HJA:=Hh hJA;have HGA:=Hh hgA;have HSH:=Hh hsh;have HSL:=Hh hs;have HKB:=Hh hkb;have HTT:=Hh hT;have HJO:Hid (joinO s ks = if (ks.any deepB || (ks.any signN && ks.any numN)) = true then none else if ks.any signN = true then some ⟨3,s,intsK ks,[]⟩ else some (leastN s (valsK ks))):=Hh rfl
 clear hJA hgA hn hnb hvs hvl hil hvi hns hT hsh hs;generalize ks.any deepB = α at *;generalize ks.any signN = σ at *;generalize ks.any numN = ν at *
 cases α with
 | true =>
  have HO:Hid (joinO s ks = none):=Hh (by rw [HJO.out];simp)
  clear HJO HS HM HSG HNM HLS
  go_enter Tryz.func144,Tryz.ntmps144
  go_wp2_with fail;refine (HD.out _ HJA.out).mono ?_;rintro e w2 ⟨rfl,hw2⟩;have HJ2:=Hh (HJA.out.grow hw2);have HG2:=Hh (HGA.out.trans hw2);have hp2:=HJ2.out.2.1.at_;clear hw2;have hbx:=HJ2.out.2.2.2;have f0:=hbx.froz 0;have f1:=hbx.froz 1;have f2:=hbx.froz 2;have f3:=hbx.froz 3;have d0:=hbx.at0;have d1:=hbx.at1;have d2:=hbx.at2;have d3:=hbx.at3;clear hbx;go_wp2;have hle:w.heap.size ≤ kb + 1:=by rw [HKB.out];exact Nat.le_succ _
  have hb:=HJ2.out.2.2.2.store 0 none none none 0 0 0 0 0 0;refine bodyPost_ret (v:=.tuple #[.agg #[.int .i64 0,.slice none 0 0,.slice none 0 0,.slice none 0 0],.bool false]) (by simp [results,Tryz.results144,go_sem,hb.at0,hb.at1,hb.at2,hb.at3]) rfl ?_
  exact OneP.no HO.out ((((HG2.out.put hle 0 (.int .i64 0)).put hle 1 (.slice none 0 0)).put hle 2 (.slice none 0 0)).put hle 3 (.slice none 0 0))
 | false =>
  cases σ with
  | true =>
   cases ν with
   | true =>
    have HO:Hid (joinO s ks = none):=Hh (by rw [HJO.out];simp)
    clear HJO HSG HNM HLS
    go_enter Tryz.func144,Tryz.ntmps144
    go_wp2_with fail;refine (HD.out _ HJA.out).mono ?_;rintro e w2 ⟨rfl,hw2⟩;have HJ2:=Hh (HJA.out.grow hw2);have HG2:=Hh (HGA.out.trans hw2);have hp2:=HJ2.out.2.1.at_;clear hw2;go_wp2_with fail;refine (HS.out _ HJ2.out).mono ?_;rintro e w3 ⟨rfl,hw3⟩;have HJ3:=Hh (HJ2.out.grow hw3);have HG3:=Hh (HG2.out.trans hw3);have hp3:=HJ3.out.2.1.at_;clear hw3;go_wp2_with fail;refine (HM.out _ HJ3.out).mono ?_;rintro e w4 ⟨rfl,hw4⟩;have HJ4:=Hh (HJ3.out.grow hw4);have HG4:=Hh (HG3.out.trans hw4);have hp4:=HJ4.out.2.1.at_;clear hw4;have hbx:=HJ4.out.2.2.2;have f0:=hbx.froz 0;have f1:=hbx.froz 1;have f2:=hbx.froz 2;have f3:=hbx.froz 3;have d0:=hbx.at0;have d1:=hbx.at1;have d2:=hbx.at2;have d3:=hbx.at3;clear hbx;go_wp2;have hle:w.heap.size ≤ kb + 1:=by rw [HKB.out];exact Nat.le_succ _
    have hb:=HJ4.out.2.2.2.store 0 none none none 0 0 0 0 0 0;refine bodyPost_ret (v:=.tuple #[.agg #[.int .i64 0,.slice none 0 0,.slice none 0 0,.slice none 0 0],.bool false]) (by simp [results,Tryz.results144,go_sem,hb.at0,hb.at1,hb.at2,hb.at3]) rfl ?_
    exact OneP.no HO.out ((((HG4.out.put hle 0 (.int .i64 0)).put hle 1 (.slice none 0 0)).put hle 2 (.slice none 0 0)).put hle 3 (.slice none 0 0))
   | false =>
    have HO:Hid (joinO s ks = some ⟨3,s,intsK ks,[]⟩):=Hh (by rw [HJO.out];simp)
    clear HJO HNM HLS
    go_enter Tryz.func144,Tryz.ntmps144
    go_wp2_with fail;refine (HD.out _ HJA.out).mono ?_;rintro e w2 ⟨rfl,hw2⟩;have HJ2:=Hh (HJA.out.grow hw2);have HG2:=Hh (HGA.out.trans hw2);have hp2:=HJ2.out.2.1.at_;clear hw2;go_wp2_with fail;refine (HS.out _ HJ2.out).mono ?_;rintro e w3 ⟨rfl,hw3⟩;have HJ3:=Hh (HJ2.out.grow hw3);have HG3:=Hh (HG2.out.trans hw3);have hp3:=HJ3.out.2.1.at_;clear hw3;go_wp2_with fail;refine (HM.out _ HJ3.out).mono ?_;rintro e w4 ⟨rfl,hw4⟩;have HJ4:=Hh (HJ3.out.grow hw4);have HG4:=Hh (HG3.out.trans hw4);have hp4:=HJ4.out.2.1.at_;clear hw4;go_wp2_with fail;refine (HS.out _ HJ4.out).mono ?_;rintro e w5 ⟨rfl,hw5⟩;have HJ5:=Hh (HJ4.out.grow hw5);have HG5:=Hh (HG4.out.trans hw5);have hp5:=HJ5.out.2.1.at_;clear hw5;have hk5:=cell_of_row w5 kb 0 _ _ (0,0) HJ5.out.1;go_wp2_with fail;refine (HSG.out _ HJ5.out).mono ?_;rintro e w6 ⟨A6,c6,rfl,hc6,hn6,hw6⟩;have HJ6:=Hh (HJ5.out.grow hw6);have HG6:=Hh (HG5.out.trans hw6);have HN6:=Hh hn6;have HZ5:=Hh HG5.out.size;have HJ5R:Hid (kb + 1 < w5.heap.size):=Hh HJ5.out.2.2.2.lt;clear hw6 hn6 hk5 hc6;obtain ⟨ni,hni⟩:∃ ni,(intsK ks).length = ni:=⟨_,rfl⟩;have HNI:=Hh hni;rw [hni];clear hni;have hbx:=HJ6.out.2.2.2;have f0:=hbx.froz 0;have f1:=hbx.froz 1;have f2:=hbx.froz 2;have f3:=hbx.froz 3;have d0:=hbx.at0;have d1:=hbx.at1;have d2:=hbx.at2;have d3:=hbx.at3;clear hbx;go_wp2;have hle:w.heap.size ≤ kb + 1:=by rw [HKB.out];exact Nat.le_succ _
    have hb:=HJ6.out.2.2.2.store 3 A1 A6 none n1 c1 ni c6 0 0;have hg:=(((HG6.out.put hle 0 (.int .i64 3)).put hle 1 (.slice A1 n1 c1)).put hle 2 (.slice A6 ni c6)).put hle 3 (.slice none 0 0);have hnn:NumsT T _ A6 (intsK ks):=HN6.out.keep fun b hb => ⟨HTT.out b (Nat.le_trans HZ5.out hb.1),(kept_store (w:=w6) (b:=kb + 1) (.int .i64 3) (.slice A1 n1 c1) (.slice A6 ni c6) (.slice none 0 0)).block b hb.2 (by have h1:=HJ5R.out;have h2:=hb.1;show ¬ b = kb + 1;omega)⟩
    refine bodyPost_ret (v:=.tuple #[.agg #[.int .i64 3,.slice A1 n1 c1,.slice A6 ni c6,.slice none 0 0],.bool true]) (by simp [results,Tryz.results144,go_sem,hb.at0,hb.at1,hb.at2,hb.at3]) rfl ?_
    exact OneP.yes HO.out hg ⟨A1,c1,A6,c6,none,0,by rw [HSL.out,HNI.out];rfl,HSH.out.grow hg,hnn,DecsT.nil_⟩
  | false =>
   have HO:Hid (joinO s ks = some (leastN s (valsK ks))):=Hh (by rw [HJO.out];simp)
   clear HJO HSG HM
   go_enter Tryz.func144,Tryz.ntmps144
   go_wp2_with fail;refine (HD.out _ HJA.out).mono ?_;rintro e w2 ⟨rfl,hw2⟩;have HJ2:=Hh (HJA.out.grow hw2);have HG2:=Hh (HGA.out.trans hw2);have hp2:=HJ2.out.2.1.at_;clear hw2;go_wp2_with fail;refine (HS.out _ HJ2.out).mono ?_;rintro e w3 ⟨rfl,hw3⟩;have HJ3:=Hh (HJ2.out.grow hw3);have HG3:=Hh (HG2.out.trans hw3);have hp3:=HJ3.out.2.1.at_;clear hw3;go_wp2_with fail;refine (HS.out _ HJ3.out).mono ?_;rintro e w4 ⟨rfl,hw4⟩;have HJ4:=Hh (HJ3.out.grow hw4);have HG4:=Hh (HG3.out.trans hw4);have hp4:=HJ4.out.2.1.at_;clear hw4;have hk5:=cell_of_row w4 kb 0 _ _ (0,0) HJ4.out.1;go_wp2_with fail;refine (HNM.out _ HJ4.out).mono ?_;rintro e w5 ⟨A5,c5,rfl,hc5,hn5,hw5⟩;have HJ5:=Hh (HJ4.out.grow hw5);have HG5:=Hh (HG4.out.trans hw5);have HL5:=Hh (HLS.out w5 A5 c5 HG5.out (hn5.keep fun b hb => ⟨⟨HTT.out b (Nat.le_trans HG4.out.size hb.1),by have h1:=HJ4.out.2.2.2.lt;have h2:=hb.1;show ¬ b = kb + 1;omega⟩,rfl⟩) (by have:=HJ5.out.2.2.2.lt;omega))
   clear hw5 hn5 hk5 hc5 HNM HLS;generalize (valsK ks).length = nv at *;go_wp2_with fail;refine (HL5.out).mono ?_;rintro e w6 ⟨v6,rfl,⟨B1,k1,B2,k2,B3,k3,rfl,m1,m2,m3⟩,hw6⟩;have HJ6:=Hh (HJ5.out.grow hw6);have HG6:=Hh (HG5.out.trans hw6);have HR6:Hid (kb + 1 < w6.heap.size):=Hh HJ6.out.2.2.2.lt;clear hw6 HL5;generalize leastN s (valsK ks) = m at *;have M1:=Hh m1;have M2:=Hh m2;have M3:=Hh m3;clear m1 m2 m3;obtain ⟨l1,hl1⟩:∃ l1,m.shp.length = l1:=⟨_,rfl⟩;obtain ⟨l2,hl2⟩:∃ l2,m.ints.length = l2:=⟨_,rfl⟩;obtain ⟨l3,hl3⟩:∃ l3,m.decs.length = l3:=⟨_,rfl⟩;have HLE:=Hh (show (Value.agg #[.int .i64 m.kind,.slice B1 l1 k1,.slice B2 l2 k2,.slice B3 l3 k3]) = .agg #[.int .i64 m.kind,.slice B1 m.shp.length k1,.slice B2 m.ints.length k2,.slice B3 m.decs.length k3] by rw [hl1,hl2,hl3])
   rw [hl1,hl2,hl3];clear hl1 hl2 hl3;have hbx:=HJ6.out.2.2.2;have f0:=hbx.froz 0;have f1:=hbx.froz 1;have f2:=hbx.froz 2;have f3:=hbx.froz 3;have d0:=hbx.at0;have d1:=hbx.at1;have d2:=hbx.at2;have d3:=hbx.at3;clear hbx;go_wp2;have hle:w.heap.size ≤ kb + 1:=by rw [HKB.out];exact Nat.le_succ _
   have hb:=HJ6.out.2.2.2.store m.kind B1 B2 B3 l1 k1 l2 k2 l3 k3;have hg:=(((HG6.out.put hle 0 (.int .i64 m.kind)).put hle 1 (.slice B1 l1 k1)).put hle 2 (.slice B2 l2 k2)).put hle 3 (.slice B3 l3 k3);have hkp:∀ b,(T b ∧ ¬ b = kb + 1) ∧ b < w6.heap.size → T b ∧ ((((w6.setCell ⟨kb + 1,0,none⟩ (.int .i64 m.kind)).setCell ⟨kb + 1,1,none⟩ (.slice B1 l1 k1)).setCell ⟨kb + 1,2,none⟩ (.slice B2 l2 k2)).setCell ⟨kb + 1,3,none⟩ (.slice B3 l3 k3)).heap[b]? = w6.heap[b]?:=fun b hb => ⟨hb.1.1,(kept_store (w:=w6) (b:=kb + 1) _ _ _ _).block b hb.2 hb.1.2⟩;refine bodyPost_ret (v:=.tuple #[.agg #[.int .i64 m.kind,.slice B1 l1 k1,.slice B2 l2 k2,.slice B3 l3 k3],.bool true]) (by simp [results,Tryz.results144,go_sem,hb.at0,hb.at1,hb.at2,hb.at3]) rfl ?_
   exact OneP.yes HO.out hg ⟨B1,k1,B2,k2,B3,k3,HLE.out,M1.out.lt.keep hkp,M2.out.lt.keep hkp,M3.out.lt.keep hkp⟩
open Go.RowKit Go.Lib
theorem vals_tot (ks:List Nd):(valsK ks).length = tot ks:=by
 induction ks with
 | nil => rfl
 | cons n ks ih =>
  simp only [valsK,List.flatMap_cons,List.length_append,tot] at ih ⊢;rw [ih];simp [valsN]
theorem ints_tot (ks:List Nd):(intsK ks).length ≤ tot ks:=by
 induction ks with
 | nil => exact Nat.le_refl _
 | cons n ks ih =>
  simp only [intsK,List.flatMap_cons,List.length_append,tot] at ih ⊢;omega
theorem vals_in {ks:List Nd} (hf:Fits ks) (hv:Vals ks):∀ x ∈ valsK ks,In x.1 ∧ In x.2:=by
 intro x hx;obtain ⟨n,hn,hx⟩:=List.mem_flatMap.1 hx
 rcases List.mem_append.1 hx with hx | hx
 ·obtain ⟨y,hy,rfl⟩:=List.mem_map.1 hx
  exact ⟨(of_facts (hv n hn y hy)).1,(of_facts (hv n hn y hy)).2.1⟩
 ·exact (hf n hn).2.2.2.2 x hx
theorem NumsT.off {T:Nat → Prop} {w:World} {A:Option Addr} {xs:List Int} (h:NumsT T w A xs) {q:Nat} (hq:w.heap.size ≤ q):NumsT (fun b => T b ∧ ¬ b = q) w A xs:=h.lt.keep fun b hb => ⟨⟨hb.1,by have:=hb.2;omega⟩,rfl⟩
theorem DecsT.off {T:Nat → Prop} {w:World} {A:Option Addr} {xs:List (Int × Int)} (h:DecsT T w A xs) {q:Nat} (hq:w.heap.size ≤ q):DecsT (fun b => T b ∧ ¬ b = q) w A xs:=h.lt.keep fun b hb => ⟨⟨hb.1,by have:=hb.2;omega⟩,rfl⟩
theorem numbers_one (n:Nd) (b c nv:Nat) (w:World) (hl:(valsN n).length = nv) (hb:nv ≤ 1100000) (hv:∀ x ∈ n.ints,In x) (hns:Nodes w w.heap.size (some ⟨b,0,none⟩) [n]) :
  Calls Tryz.prog 145 #[.slice (some ⟨b,0,none⟩) 1 c] w (fun e w' => ∃ A k,e = .returned (.slice A nv k) ∧ NewD w.heap.size A (valsN n) w' ∧ Grow w w'):=by
 have e:valsK [n] = valsN n:=by simp [valsK]
 refine (numbers_any (some ⟨b,0,none⟩) 1 c [n] w rfl (by omega) (by rw [e];omega) (fun m hm => by rw [List.mem_singleton.1 hm];exact hv) hns).mono ?_
 rintro x w' ⟨A,k,h1,_,h2,h3⟩;rw [e] at h1 h2;rw [hl] at h1;exact ⟨A,k,h1,h2,h3⟩
theorem fold_any (T:Nat → Prop) (n:Nd) (A1 A2 A3:Option Addr) (c1 c2 c3:Nat) (A:Option Addr) (m c:Nat) (ks:List Nd) (w:World) (hT:∀ b,w.heap.size ≤ b → T b) (hok:okB n = true) (hfn:Fit n) (hin:∀ x ∈ n.ints,In x)
  (h1:NumsT T w A1 n.shp) (h2:NumsT T w A2 n.ints) (h3:DecsT T w A3 n.decs) (hm:ks.length = m) (hks:Fine ks) (htot:tot ks ≤ 1100000) (hns:Nodes w w.heap.size A ks) :
  Calls Tryz.prog 111 #[.agg #[.int .i64 n.kind,.slice A1 n.shp.length c1,.slice A2 n.ints.length c2,.slice A3 n.decs.length c3],.slice A m c] w (OneP T (foldO n ks) w):=by
 obtain ⟨nb,hnb⟩:∃ nb,w.heap.size = nb:=⟨_,rfl⟩;have HVO:=Hh (fun hk => vals_ok hok hk hfn hin);have HFO:Hid (foldO n ks = if n.kind = 3 then some n else if n.kind = 5 then joinO n.shp ks else some (leastN n.shp (valsN n))):=Hh rfl
 have HVX:Hid (valsK [n] = valsN n):=Hh (by simp [valsK])
 have HM:=Hh hm;have HKS:=Hh hks;have HTOT:=Hh htot;have HNS:=Hh hns;have HT:=Hh hT;have HI:=Hh hin;have HNB:=Hh hnb;have M1:=Hh (h1.off (q:=nb + 1) (by omega))
 have M2:=Hh (h2.off (q:=nb + 1) (by omega))
 have M3:=Hh (h3.off (q:=nb + 1) (by omega))
 have HSL:Hid (n.shp.length = n.shp.length):=Hh rfl;clear hok hfn hm hks htot hns hT hin h1 h2 h3;obtain ⟨k,sh,xs,ds⟩:=n;dsimp only at *;obtain ⟨l1,hl1⟩:∃ l1,sh.length = l1:=⟨_,rfl⟩;obtain ⟨l2,hl2⟩:∃ l2,xs.length = l2:=⟨_,rfl⟩;obtain ⟨l3,hl3⟩:∃ l3,ds.length = l3:=⟨_,rfl⟩;have HL1:=Hh hl1;have HL2:=Hh hl2;have HL3:=Hh hl3;rw [hl1,hl2,hl3];clear hl1 hl2 hl3 HSL
 let w2:=(w.alloc (.cells #[.int .i64 k,.slice A1 l1 c1,.slice A2 l2 c2,.slice A3 l3 c3] 34)).alloc (.cells #[.int .i64 0,.slice none 0 0,.slice none 0 0,.slice none 0 0] 34)
 have hg2:Grow w w2:=grow_new2 _ _ _;have hs1:(w.alloc (.cells #[.int .i64 k,.slice A1 l1 c1,.slice A2 l2 c2,.slice A3 l3 c3] 34)).heap.size = nb + 1:=by simp [hnb]
 have hbn:BoxN w2 nb k A1 l1 c1 A2 l2 c2 A3 l3 c3:=by
  rw [← hnb];exact (boxN_new w k A1 l1 c1 A2 l2 c2 A3 l3 c3).grow (grow_new _ _)
 have hbr:BoxN w2 (nb + 1) 0 none 0 0 none 0 0 none 0 0:=by
  have h:=boxN_new (w.alloc (.cells #[.int .i64 k,.slice A1 l1 c1,.slice A2 l2 c2,.slice A3 l3 c3] 34)) 0 none 0 0 none 0 0 none 0 0;rw [hs1] at h;exact h
 have HG2:=Hh hg2;have HBN:=Hh hbn;have HR2:=Hh hbr;have n0:=hbn.at0;have n1:=hbn.at1;have n2:=hbn.at2;have n3:=hbn.at3;clear hg2 hbn;have hbx:=hbr;have f0:=hbx.froz 0;have f1:=hbx.froz 1;have f2:=hbx.froz 2;have f3:=hbx.froz 3;have d0:=hbx.at0;have d1:=hbx.at1;have d2:=hbx.at2;have d3:=hbx.at3;clear hbx hbr
 by_cases k3:k = 3
 ·subst k3
  have HO:Hid (foldO ⟨3,sh,xs,ds⟩ ks = some ⟨3,sh,xs,ds⟩):=Hh (by rw [HFO.out];exact if_pos rfl)
  clear HFO HVO
  go_enter Tryz.func111,Tryz.ntmps111
  go_wp2;have hb:=boxN_new (w.alloc (.cells #[.int .i64 3,.slice A1 l1 c1,.slice A2 l2 c2,.slice A3 l3 c3] 34)) 3 A1 l1 c1 A2 l2 c2 A3 l3 c3;rw [hs1] at hb;have hg:=grow_new2 w (.cells #[.int .i64 3,.slice A1 l1 c1,.slice A2 l2 c2,.slice A3 l3 c3] 34) (.cells #[.int .i64 3,.slice A1 l1 c1,.slice A2 l2 c2,.slice A3 l3 c3] 34);have hkp:∀ b,(T b ∧ ¬ b = nb + 1) ∧ b < w.heap.size → T b ∧ w.heap[b]? = w.heap[b]?:=fun b hb => ⟨hb.1.1,rfl⟩;refine bodyPost_ret (v:=.tuple #[.agg #[.int .i64 3,.slice A1 l1 c1,.slice A2 l2 c2,.slice A3 l3 c3],.bool true]) (by simp [results,Tryz.results111,go_sem,hb.at0,hb.at1,hb.at2,hb.at3]) rfl ?_
  exact OneP.yes HO.out hg ⟨A1,c1,A2,c2,A3,c3,by rw [HL1.out,HL2.out,HL3.out],(M1.out.lt.keep hkp).grow hg,(M2.out.lt.keep hkp).grow hg,(M3.out.lt.keep hkp).grow hg⟩
 have k3':(k == 3) = false:=by simpa using k3
 by_cases k5:k = 5
 ·subst k5
  have HO:Hid (foldO ⟨5,sh,xs,ds⟩ ks = joinO sh ks):=Hh (by rw [HFO.out];rfl)
  have HJ:=Hh (join_any (fun b => T b ∧ ¬ b = nb + 1) A1 l1 c1 sh A m c ks w2 (fun b hb => ⟨HT.out b (Nat.le_trans HG2.out.size hb),by have:=HR2.out.lt;omega⟩) HL1.out (M1.out.grow HG2.out) HM.out (by rw [← HM.out];exact HKS.out.1) HKS.out.2.2 (by rw [vals_tot];exact HTOT.out) (Nat.le_trans (ints_tot ks) HTOT.out) (vals_in HKS.out.2.1 HKS.out.2.2) (HNS.out.grow HG2.out))
  clear HFO HVO f0 f1 f2 f3 d0 d1 d2 d3;generalize joinO sh ks = o at *
  go_enter Tryz.func111,Tryz.ntmps111
  go_wp2_with fail;refine (HJ.out).mono ?_;rintro e w3 ⟨hw3,he⟩;have HG3:=Hh (HG2.out.trans hw3);have HR3:=Hh (HR2.out.grow hw3);clear hw3 HJ n0 n1 n2 n3
  cases o with
  | none =>
   subst he;have hbx:=HR3.out;have f0:=hbx.froz 0;have f1:=hbx.froz 1;have f2:=hbx.froz 2;have f3:=hbx.froz 3;have d0:=hbx.at0;have d1:=hbx.at1;have d2:=hbx.at2;have d3:=hbx.at3;clear hbx;go_wp2;have hle:w.heap.size ≤ nb + 1:=by rw [HNB.out];exact Nat.le_succ _
   have hb:=HR3.out.store 0 none none none 0 0 0 0 0 0;have hg:=(((HG3.out.put hle 0 (.int .i64 0)).put hle 1 (.slice none 0 0)).put hle 2 (.slice none 0 0)).put hle 3 (.slice none 0 0);have hkp:∀ b,(T b ∧ ¬ b = nb + 1) ∧ b < w3.heap.size → T b ∧ ((((w3.setCell ⟨nb + 1,0,none⟩ (.int .i64 0)).setCell ⟨nb + 1,1,none⟩ (.slice none 0 0)).setCell ⟨nb + 1,2,none⟩ (.slice none 0 0)).setCell ⟨nb + 1,3,none⟩ (.slice none 0 0)).heap[b]? = w3.heap[b]?:=fun b hb => ⟨hb.1.1,(kept_store (w:=w3) (b:=nb + 1) _ _ _ _).block b hb.2 hb.1.2⟩;refine bodyPost_ret (v:=.tuple #[.agg #[.int .i64 0,.slice none 0 0,.slice none 0 0,.slice none 0 0],.bool false]) (by simp [results,Tryz.results111,go_sem,hb.at0,hb.at1,hb.at2,hb.at3]) rfl ?_
   exact OneP.no HO.out hg
  | some q =>
   obtain ⟨v,rfl,B1,e1,B2,e2,B3,e3,rfl,m1,m2,m3⟩:=he;have P1:=Hh m1;have P2:=Hh m2;have P3:=Hh m3;clear m1 m2 m3;obtain ⟨q1,hq1⟩:∃ q1,q.shp.length = q1:=⟨_,rfl⟩;obtain ⟨q2,hq2⟩:∃ q2,q.ints.length = q2:=⟨_,rfl⟩;obtain ⟨q3,hq3⟩:∃ q3,q.decs.length = q3:=⟨_,rfl⟩;have HLE:=Hh (show (Value.agg #[.int .i64 q.kind,.slice B1 q1 e1,.slice B2 q2 e2,.slice B3 q3 e3]) = .agg #[.int .i64 q.kind,.slice B1 q.shp.length e1,.slice B2 q.ints.length e2,.slice B3 q.decs.length e3] by rw [hq1,hq2,hq3])
   rw [hq1,hq2,hq3];clear hq1 hq2 hq3;have hbx:=HR3.out;have f0:=hbx.froz 0;have f1:=hbx.froz 1;have f2:=hbx.froz 2;have f3:=hbx.froz 3;have d0:=hbx.at0;have d1:=hbx.at1;have d2:=hbx.at2;have d3:=hbx.at3;clear hbx;go_wp2;have hle:w.heap.size ≤ nb + 1:=by rw [HNB.out];exact Nat.le_succ _
   have hb:=HR3.out.store q.kind B1 B2 B3 q1 e1 q2 e2 q3 e3;have hg:=(((HG3.out.put hle 0 (.int .i64 q.kind)).put hle 1 (.slice B1 q1 e1)).put hle 2 (.slice B2 q2 e2)).put hle 3 (.slice B3 q3 e3);have hkp:∀ b,(T b ∧ ¬ b = nb + 1) ∧ b < w3.heap.size → T b ∧ ((((w3.setCell ⟨nb + 1,0,none⟩ (.int .i64 q.kind)).setCell ⟨nb + 1,1,none⟩ (.slice B1 q1 e1)).setCell ⟨nb + 1,2,none⟩ (.slice B2 q2 e2)).setCell ⟨nb + 1,3,none⟩ (.slice B3 q3 e3)).heap[b]? = w3.heap[b]?:=fun b hb => ⟨hb.1.1,(kept_store (w:=w3) (b:=nb + 1) _ _ _ _).block b hb.2 hb.1.2⟩;refine bodyPost_ret (v:=.tuple #[.agg #[.int .i64 q.kind,.slice B1 q1 e1,.slice B2 q2 e2,.slice B3 q3 e3],.bool true]) (by simp [results,Tryz.results111,go_sem,hb.at0,hb.at1,hb.at2,hb.at3]) rfl ?_
   exact OneP.yes HO.out hg ⟨B1,e1,B2,e2,B3,e3,HLE.out,P1.out.lt.keep hkp,P2.out.lt.keep hkp,P3.out.lt.keep hkp⟩
 have k5':(k == 5) = false:=by simpa using k5
 have HO:Hid (foldO ⟨k,sh,xs,ds⟩ ks = some (leastN sh (valsN ⟨k,sh,xs,ds⟩))):=Hh (by rw [HFO.out,if_neg k3,if_neg k5])
 obtain ⟨_,hvi,hvl,_⟩:=HVO.out k3;have HVI:=Hh hvi;have HVL:=Hh hvl;obtain ⟨nv,hnv⟩:∃ nv,(valsN ⟨k,sh,xs,ds⟩).length = nv:=⟨_,rfl⟩;have HNV:=Hh hnv;have hnvb:nv ≤ 1100000:=by rw [← hnv];exact HVL.out
 have HNO:=Hh (fun (W:World) (b:Nat) (h:Nodes W W.heap.size (some ⟨b,0,none⟩) [⟨k,sh,xs,ds⟩]) => numbers_one ⟨k,sh,xs,ds⟩ b 1 nv W hnv hnvb HI.out h);clear HFO HVO hvi hvl f0 f1 f2 f3 d0 d1 d2 d3 k3 k5 HVX hnv;generalize valsN ⟨k,sh,xs,ds⟩ = vs at *
 go_enter Tryz.func111,Tryz.ntmps111
 go_wp2;refine wp_region_R ((Kept (fun k => k = nb + 1))) (n:=8) rfl (by kernel_rfl) ?_
 intro W0 hW0e hW0;have HW0:=Hh hW0;have HB0:=Hh (HBN.out.grow HW0.out);have HBK:Hid (∀ wg,Kept (fun k => k = nb + 1) W0 wg → BoxN wg nb k A1 l1 c1 A2 l2 c2 A3 l3 c3):=Hh (fun wg h => (h.block nb HB0.out.lt (by show ¬ nb = nb + 1;omega)).trans HB0.out)
 have b0:∀ wg,Kept (fun k => k = nb + 1) W0 wg → wg.cell? ⟨nb,0,none⟩ = some (.int .i64 k):=fun wg h => (HBK.out wg h).at0;have b1:∀ wg,Kept (fun k => k = nb + 1) W0 wg → wg.cell? ⟨nb,1,none⟩ = some (.slice A1 l1 c1):=fun wg h => (HBK.out wg h).at1;have b2:∀ wg,Kept (fun k => k = nb + 1) W0 wg → wg.cell? ⟨nb,2,none⟩ = some (.slice A2 l2 c2):=fun wg h => (HBK.out wg h).at2;have b3:∀ wg,Kept (fun k => k = nb + 1) W0 wg → wg.cell? ⟨nb,3,none⟩ = some (.slice A3 l3 c3):=fun wg h => (HBK.out wg h).at3;have HGW:=Hh (HG2.out.trans HW0.out);have HRW:=Hh (HR2.out.grow HW0.out);clear hW0e;refine wpR_take (keptOrd (fun k => k = nb + 1)) (i:=0) (v:=?vf1) rfl (by kernel_rfl) (by kernel_rfl) (by kernel_rfl) (fun _ _ _ h => h) (by rfl) ?hf1 ?rf1
 case hf1 => (intro wg hSw;go_simp <;> with_reducible rfl)
 simp only [Act.put,List.setIfInBounds_toArray,List.set_cons_zero,List.set_cons_succ];refine wpR_take (keptOrd (fun k => k = nb + 1)) (i:=1) (v:=?vf2) rfl (by kernel_rfl) (by kernel_rfl) (by kernel_rfl) (fun _ _ _ h => h) (by rfl) ?hf2 ?rf2
 case hf2 => (intro wg hSw;go_simp <;> with_reducible rfl)
 simp only [Act.put,List.setIfInBounds_toArray,List.set_cons_zero,List.set_cons_succ];refine wpR_take (keptOrd (fun k => k = nb + 1)) (i:=2) (v:=?vf3) rfl (by kernel_rfl) (by kernel_rfl) (by kernel_rfl) (fun _ _ _ h => h) (by rfl) ?hf3 ?rf3
 case hf3 => (intro wg hSw;go_simp <;> with_reducible rfl)
 simp only [Act.put,List.setIfInBounds_toArray,List.set_cons_zero,List.set_cons_succ];refine wpR_one (i:=3) (by kernel_rfl) ?_
 refine wpR_op (i:=3) rfl (by rfl) (fun K hK => ?_)
 go_simp;refine hK.out _ _ (Kept.of_grow (grow_new _ _)) ?_;clear hK K
 try simp only [Act.put,List.setIfInBounds_toArray,List.set_cons_zero,List.set_cons_succ]
 have hnd3:=node_lit W0 k A1 l1 c1 A2 l2 c2 A3 l3 c3 ⟨k,sh,xs,ds⟩ rfl HL1.out HL2.out HL3.out ⟨(M1.out.grow HGW.out).nums,(M2.out.grow HGW.out).nums,(M3.out.grow HGW.out).decs⟩;obtain ⟨nz,hnz⟩:∃ nz,W0.heap.size = nz:=⟨_,rfl⟩;rw [hnz] at hnd3 ⊢;generalize hwM3:World.alloc W0 (Obj.cells #[.int .i64 k,.slice A1 l1 c1,.slice A2 l2 c2,.slice A3 l3 c3] 34) = wM3 at *;have HN3:=Hh hnd3;have HG3:Hid (Grow W0 wM3):=Hh (by rw [← hwM3];exact grow_new _ _)
 have hM3:Kept (fun k => k = nb + 1) W0 wM3:=Kept.of_grow HG3.out;have HGW3:=Hh (HGW.out.trans HG3.out);have HRW3:=Hh (HRW.out.grow HG3.out);clear hwM3 hnd3 hnz;refine wpR_one (i:=4) (by kernel_rfl) ?_
 refine wpR_op (i:=4) rfl (by rfl) (fun K hK => ?_)
 go_simp;refine (HNO.out wM3 nz HN3.out).mono ?_;rintro e wM4 ⟨A4,c4,rfl,hn4,hg4⟩;have HGW4:=Hh (HGW3.out.trans hg4);have HRW4:=Hh (HRW3.out.grow hg4);have HN4:Hid (DecsT (fun b => T b ∧ ¬ b = nb + 1) wM4 A4 vs):=Hh (hn4.keep fun b hb => ⟨⟨HT.out b (Nat.le_trans HGW3.out.size hb.1),by have h1:=HRW3.out.lt;have h2:=hb.1;omega⟩,rfl⟩)
 have hM4:Kept (fun k => k = nb + 1) wM3 wM4:=Kept.of_grow hg4;clear hn4 hg4 HN3;refine hK.out _ _ hM4 ?_;clear hK K
 try simp only [Act.put,List.setIfInBounds_toArray,List.set_cons_zero,List.set_cons_succ]
 refine wpR_one (i:=5) (by kernel_rfl) ?_
 refine wpR_op (i:=5) rfl (by rfl) (fun K hK => ?_)
 go_simp;refine (least_any (fun b => T b ∧ ¬ b = nb + 1) A1 l1 c1 sh A4 nv c4 vs wM4 (fun b hb => ⟨HT.out b (Nat.le_trans HGW4.out.size hb),by have:=HRW4.out.lt;omega⟩) HL1.out (M1.out.grow HGW4.out) HNV.out hnvb HVI.out HN4.out).mono ?_
 rintro e wM5 ⟨v5,rfl,⟨B1,e1,B2,e2,B3,e3,rfl,m1,m2,m3⟩,hg5⟩;have HG5:=Hh (HGW4.out.trans hg5);have HR5:=Hh (HRW4.out.grow hg5);have P1:=Hh m1;have P2:=Hh m2;have P3:=Hh m3;have hM5:Kept (fun k => k = nb + 1) wM4 wM5:=Kept.of_grow hg5;clear m1 m2 m3 hg5;generalize leastN sh vs = q at *;obtain ⟨q1,hq1⟩:∃ q1,q.shp.length = q1:=⟨_,rfl⟩;obtain ⟨q2,hq2⟩:∃ q2,q.ints.length = q2:=⟨_,rfl⟩;obtain ⟨q3,hq3⟩:∃ q3,q.decs.length = q3:=⟨_,rfl⟩;have HLE:=Hh (show (Value.agg #[.int .i64 q.kind,.slice B1 q1 e1,.slice B2 q2 e2,.slice B3 q3 e3]) = .agg #[.int .i64 q.kind,.slice B1 q.shp.length e1,.slice B2 q.ints.length e2,.slice B3 q.decs.length e3] by rw [hq1,hq2,hq3])
 rw [hq1,hq2,hq3];clear hq1 hq2 hq3 b0 b1 b2 b3;have hbx:=HR5.out;have f0:=hbx.froz 0;have f1:=hbx.froz 1;have f2:=hbx.froz 2;have f3:=hbx.froz 3;have d0:=hbx.at0;have d1:=hbx.at1;have d2:=hbx.at2;have d3:=hbx.at3;clear hbx;refine hK.out _ _ hM5 ?_;clear hK K
 try simp only [Act.put,List.setIfInBounds_toArray,List.set_cons_zero,List.set_cons_succ]
 refine wpR_one (i:=6) (by kernel_rfl) ?_
 refine wpR_op (i:=6) rfl (by rfl) (fun K hK => ?_)
 go_simp;refine hK.out _ _ (kept_store _ _ _ _) ?_;clear hK K
 try simp only [Act.put,List.setIfInBounds_toArray,List.set_cons_zero,List.set_cons_succ]
 have hle:w.heap.size ≤ nb + 1:=by rw [HNB.out];exact Nat.le_succ _
 have hb:=HR5.out.store q.kind B1 B2 B3 q1 e1 q2 e2 q3 e3;have hg:=(((HG5.out.put hle 0 (.int .i64 q.kind)).put hle 1 (.slice B1 q1 e1)).put hle 2 (.slice B2 q2 e2)).put hle 3 (.slice B3 q3 e3);have hkp:∀ b,(T b ∧ ¬ b = nb + 1) ∧ b < wM5.heap.size → T b ∧ ((((wM5.setCell ⟨nb + 1,0,none⟩ (.int .i64 q.kind)).setCell ⟨nb + 1,1,none⟩ (.slice B1 q1 e1)).setCell ⟨nb + 1,2,none⟩ (.slice B2 q2 e2)).setCell ⟨nb + 1,3,none⟩ (.slice B3 q3 e3)).heap[b]? = wM5.heap[b]?:=fun b hb => ⟨hb.1.1,(kept_store (w:=wM5) (b:=nb + 1) _ _ _ _).block b hb.2 hb.1.2⟩;have HB6:=Hh hb;have HG6:=Hh hg;have HK6:=Hh hkp;have N1:=Hh (P1.out.lt.keep hkp);have N2:=Hh (P2.out.lt.keep hkp);have N3:=Hh (P3.out.lt.keep hkp);clear hb hg hkp HK6 f0 f1 f2 f3 d0 d1 d2 d3;generalize hw6:World.setCell _ _ _ = wM6 at *;have hM6:Kept (fun k => k = nb + 1) wM5 wM6:=by rw [← hw6];exact kept_store _ _ _ _
 clear hw6;refine wpR_take (keptOrd (fun k => k = nb + 1)) (i:=7) (v:=?vf4) rfl (by kernel_rfl) (by kernel_rfl) (by kernel_rfl) (fun _ _ _ h => h) (by rfl) ?hf4 ?rf4
 case hf4 => (intro wg hSw;go_simp <;> with_reducible rfl)
 simp only [Act.put,List.setIfInBounds_toArray,List.set_cons_zero,List.set_cons_succ];refine wpR_done (by kernel_rfl) ?_
 go_wp2;refine bodyPost_ret (v:=.tuple #[.agg #[.int .i64 q.kind,.slice B1 q1 e1,.slice B2 q2 e2,.slice B3 q3 e3],.bool true]) (by simp [results,Tryz.results111,go_sem,HB6.out.at0,HB6.out.at1,HB6.out.at2,HB6.out.at3]) rfl ?_
 exact OneP.yes HO.out HG6.out ⟨B1,e1,B2,e2,B3,e3,HLE.out,N1.out,N2.out,N3.out⟩
open Go.RowKit Go.Lib
section
variable {g : Nat} {w w' : World} {A : Option Addr}
theorem kept_cell (hk:Kept (fun k => k = g) w w') {b o:Nat} {v:Value} (hb:¬ b = g) (h:w.cell? ⟨b,o,none⟩ = some v):w'.cell? ⟨b,o,none⟩ = some v :=
 (hk.cell (p:=⟨b,o,none⟩) (block_lt_of_cell h) hb).trans h
theorem NumsT.kept {xs:List Int} (h:NumsT (fun b => ¬ b = g) w A xs) (hk:Kept (fun k => k = g) w w'):NumsT (fun b => ¬ b = g) w' A xs:=fun hn => by
 obtain ⟨b,off,e,hb,hc⟩:=h hn;exact ⟨b,off,e,hb,fun i hi => kept_cell hk hb (hc i hi)⟩
theorem DecsT.kept {ds:List (Int × Int)} (h:DecsT (fun b => ¬ b = g) w A ds) (hk:Kept (fun k => k = g) w w'):DecsT (fun b => ¬ b = g) w' A ds:=fun hn => by
 obtain ⟨b,off,e,hb,hc⟩:=h hn;exact ⟨b,off,e,hb,fun i hi => ⟨kept_cell hk hb (hc i hi).1,kept_cell hk hb (hc i hi).2⟩⟩
theorem NodesT.kept {ns:List Nd} (h:NodesT (fun b => ¬ b = g) w A ns) (hk:Kept (fun k => k = g) w w'):NodesT (fun b => ¬ b = g) w' A ns:=fun hn => by
 obtain ⟨b,off,e,hb,hc⟩:=h hn;refine ⟨b,off,e,hb,fun i hi => ?_⟩;obtain ⟨A1,c1,A2,c2,A3,c3,h0,h1,h2,h3,n1,n2,n3⟩:=hc i hi;exact ⟨A1,c1,A2,c2,A3,c3,kept_cell hk hb h0,kept_cell hk hb h1,kept_cell hk hb h2,kept_cell hk hb h3,n1.kept hk,n2.kept hk,n3.kept hk⟩
theorem HeldN.kept {f:Nat → Value} {i:Nat} {n:Nd} (h:HeldN (fun b => ¬ b = g) w f i n) (hk:Kept (fun k => k = g) w w') {f':Nat → Value} (hf:∀ j,i * 4 ≤ j → j < i * 4 + 4 → f' j = f j):HeldN (fun b => ¬ b = g) w' f' i n:=by
 obtain ⟨A1,c1,A2,c2,A3,c3,h0,h1,h2,h3,n1,n2,n3⟩:=h;exact ⟨A1,c1,A2,c2,A3,c3,by rw [hf _ (by omega) (by omega),h0],by rw [hf _ (by omega) (by omega),h1],by rw [hf _ (by omega) (by omega),h2],by rw [hf _ (by omega) (by omega),h3],n1.kept hk,n2.kept hk,n3.kept hk⟩
theorem NodesT.dropT {T:Nat → Prop} {b off:Nat} {ns:List Nd} (h:NodesT T w (some ⟨b,off,none⟩) ns) (k:Nat):NodesT T w (some ⟨b,off + k * 4,none⟩) (ns.drop k):=fun hn => by
 rw [List.length_drop] at hn;obtain ⟨b',off',e,hb,hc⟩:=h (by omega)
 cases e
 refine ⟨b,off + k * 4,rfl,hb,fun i hi => ?_⟩;rw [List.length_drop] at hi;have:=hc (k + i) (by omega)
 have e2:(ns.drop k).getD i nd0 = ns.getD (k + i) nd0:=by simp [List.getD]
 rw [e2,show off + k * 4 + i * 4 = off + (k + i) * 4 by omega]
 exact this
theorem NodesT.cut {T:Nat → Prop} {ns:List Nd} (h:NodesT T w A ns) (c k:Nat) (hc:ns.length ≤ c):NodesT T w (cutA A c k) (ns.drop k):=by
 unfold cutA
 by_cases hck:c = k
 ·rw [if_pos hck,List.drop_of_length_le (by omega)]
  exact fun hn => absurd hn (by simp)
 ·rw [if_neg hck]
  cases A with
  | none =>
   intro hn;rw [List.length_drop] at hn;obtain ⟨b,off,e,_⟩:=h (by omega)
   cases e
  | some a =>
   intro hn;rw [List.length_drop] at hn;obtain ⟨b,off,e,_⟩:=h (by omega)
   cases e
   rw [Option.map_some,addr_add];exact h.dropT k (by rw [List.length_drop];exact hn)
end
def RowC (w:World) (g cap:Nat) (ns:List Nd):Prop :=
 ∃ cur:Array Value,w.heap[g]? = some (.cells cur 34 (0,0)) ∧ cur.size = cap * 4 ∧ ns.length ≤ cap ∧ ∀ i,i < ns.length → HeldN (fun b => ¬ b = g) w (fun j => cur.toList.getD j undef) i (ns.getD i nd0)
section
variable {g cap : Nat} {w w' : World} {ns : List Nd}
theorem RowC.lt (h:RowC w g cap ns):g < w.heap.size:=by obtain ⟨cur,h,_⟩:=h;exact heap_lt h
theorem RowC.grow (h:RowC w g cap ns) (hg:Grow w w'):RowC w' g cap ns:=by
 obtain ⟨cur,h1,h2,h3,h4⟩:=h;exact ⟨cur,(hg.block g (heap_lt h1)).trans h1,h2,h3,fun i hi => (h4 i hi).kept (Kept.of_grow hg) (fun _ _ _ => rfl)⟩
theorem RowC.take (h:RowC w g cap ns) (k:Nat):RowC w g cap (ns.take k):=by
 obtain ⟨cur,h1,h2,h3,h4⟩:=h;have hl:(ns.take k).length ≤ ns.length:=by simp;omega
 refine ⟨cur,h1,h2,by omega,fun i hi => ?_⟩
 have hik:i < k:=by simp at hi;omega
 have e2:(ns.take k).getD i nd0 = ns.getD i nd0:=by simp [hik]
 rw [e2];exact h4 i (by omega)
theorem RowC.nodes (h:RowC w g cap ns):Nodes w w.heap.size (some ⟨g,0,none⟩) ns:=fun _ => by
 obtain ⟨cur,h1,h2,h3,h4⟩:=h;refine ⟨g,0,rfl,heap_lt h1,fun i hi => ?_⟩;obtain ⟨A1,c1,A2,c2,A3,c3,e0,e1,e2,e3,n1,n2,n3⟩:=h4 i hi;have cell:∀ j v,j < cap * 4 → cur.toList.getD j undef = v → w.cell? ⟨g,j,none⟩ = some v:=fun j v hj hv => by
  have hj':j < cur.size:=by omega
  rw [cell_of_row w g j cur _ (0,0) h1,← hv,← Array.getElem?_toList];simp [List.getD,hj']
 rw [Nat.zero_add];exact ⟨A1,c1,A2,c2,A3,c3,cell _ _ (by omega) e0,cell _ _ (by omega) e1,cell _ _ (by omega) e2,cell _ _ (by omega) e3,n1.nums,n2.nums,n3.decs⟩
end
theorem wp_push {o:Oper} {a:Act} {w:World} {K:Act → World → Prop} {Q:Exit → Act → World → Prop} (s x:Operand)
  (ho:o.op = .call { callee:=.builtin .append,args:=#[s,x],argTypes:=#[22,22] }) (g cap m:Nat) (ns:List Nd) (n:Nd) (b:Nat) (A1 A2 A3:Option Addr) (l1 c1 l2 c2 l3 c3:Nat)
  (hs:a.eval s = .slice (some ⟨g,0,none⟩) m cap) (hx:a.eval x = .slice (some ⟨b,0,none⟩) 1 1) (hrow:RowC w g cap ns) (hm:ns.length = m) (hroom:m < cap)
  (hbox:BoxN w b n.kind A1 l1 c1 A2 l2 c2 A3 l3 c3) (hl1:n.shp.length = l1) (hl2:n.ints.length = l2) (hl3:n.decs.length = l3)
  (h1:NumsT (fun b => ¬ b = g) w A1 n.shp) (h2:NumsT (fun b => ¬ b = g) w A2 n.ints) (h3:DecsT (fun b => ¬ b = g) w A3 n.decs)
  (h:∀ w',RowC w' g cap (ns ++ [n]) → Kept (fun k => k = g) w w' → K (a.put o.dst (.slice (some ⟨g,0,none⟩) (m + 1) cap)) w'):o.wp Tryz.prog a w K Q:=by
 obtain ⟨i0,hi,hz0,hz1,hz2⟩:=info_of info_node;obtain ⟨cur,hg,hsz,hlen,hns⟩:=hrow;subst hm hl1 hl2 hl3;have hr:=run_append_room (P:=Tryz.prog) w 22 o.type 34 i0 Tryz.underlying22 hi g ns.length cap cur hg ⟨b,0,none⟩ 1 1
  [.int .i64 n.kind,.slice A1 n.shp.length c1,.slice A2 n.ints.length c2,.slice A3 n.decs.length c3] (by rw [hz1];rfl) (fun j u hj => by
   rw [addr_add,Nat.zero_add]
   match j,hj with
   | 0,hj => cases hj;exact hbox.at0
   | 1,hj => cases hj;exact hbox.at1
   | 2,hj => cases hj;exact hbox.at2
   | 3,hj => cases hj;exact hbox.at3
   | j + 4,hj => simp at hj) (fun u hu => by
   simp only [List.mem_cons,List.not_mem_nil,or_false] at hu
   rcases hu with rfl | rfl | rfl | rfl <;> rfl) (by omega) (by rw [hz1];simp only [List.length_cons,List.length_nil];omega)
 rw [hz1] at hr;generalize hnew:(cur.toList.take (ns.length * 4) ++ [Value.int .i64 n.kind,.slice A1 n.shp.length c1,.slice A2 n.ints.length c2,.slice A3 n.decs.length c3] ++ cur.toList.drop (ns.length * 4 + [Value.int .i64 n.kind,.slice A1 n.shp.length c1,.slice A2 n.ints.length c2,.slice A3 n.decs.length c3].length)) = new at hr;have hcl:cur.toList.length = cap * 4:=by rw [Array.length_toList,hsz]
 have htl:(cur.toList.take (ns.length * 4)).length = ns.length * 4:=by rw [List.length_take];omega
 have hnl:new.length = cap * 4:=by rw [← hnew];simp only [List.length_append,htl,List.length_cons,List.length_nil,List.length_drop,hcl];omega
 have hlow:∀ j,j < ns.length * 4 → new.getD j undef = cur.toList.getD j undef:=fun j hj => by
  rw [← hnew];simp only [List.getD];rw [List.getElem?_append_left (by simp only [List.length_append,htl];omega),List.getElem?_append_left (by omega),List.getElem?_take,if_pos hj]
 have hmid:∀ r,r < 4 → new.getD (ns.length * 4 + r) undef = [Value.int .i64 n.kind,.slice A1 n.shp.length c1,.slice A2 n.ints.length c2,.slice A3 n.decs.length c3].getD r undef:=fun r hr => by
  rw [← hnew];simp only [List.getD];rw [List.getElem?_append_left (by simp only [List.length_append,htl,List.length_cons,List.length_nil];omega),List.getElem?_append_right (by omega),htl,Nat.add_sub_cancel_left]
 have hk:Kept (fun k => k = g) w (w.setRow g new.toArray):=⟨rfl,rfl,rfl,by simp,fun k _ hk => setRow_other w g k _ hk⟩
 unfold Oper.wp;simp [execOp,ho,resolve,invoke,builtin,hs,hx,hr,Result.andThen];refine h _ ⟨new.toArray,setRow_heap w g cur _ _ _ hg,by simpa using hnl,by rw [List.length_append];simp only [List.length_singleton];omega,fun i hi => ?_⟩ hk
 by_cases hik:i < ns.length
 ·have e1:(ns ++ [n]).getD i nd0 = ns.getD i nd0:=by simp [List.getD,List.getElem?_append_left hik]
  rw [e1];exact (hns i hik).kept hk (fun j h1 h2 => by rw [List.toList_toArray];exact hlow j (by omega))
 ·have hik':i = ns.length:=by rw [List.length_append] at hi;simp at hi;omega
  subst hik';have e1:(ns ++ [n]).getD ns.length nd0 = n:=by simp
  rw [e1];exact ⟨A1,c1,A2,c2,A3,c3,by rw [List.toList_toArray];exact hmid 0 (by decide),by rw [List.toList_toArray];exact hmid 1 (by decide),by rw [List.toList_toArray];exact hmid 2 (by decide),by rw [List.toList_toArray];exact hmid 3 (by decide),h1.kept hk,h2.kept hk,h3.kept hk⟩
end Go.Proofs.YteoogioanjkacaaGreatDoor
