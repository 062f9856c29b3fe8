/-
  Contracts, joined: Add, Firsts, HoldsA, KidsM, Nest, NodesIn, Few. Nothing is claimed here by itself.
-/
import Derived.Test.YteoogioanjkacaaGreatDoorU01
import Derived.BigRegion
import Derived.Lib.AppendZerosOnto
import Derived.ArgAppend
import Derived.Laws.BitsAllLaws
import Derived.Test.YteoogioanjkacaaGreatDoorProg
import Derived.Deep.SlicePairs
import Derived.OpenShut
import Derived.ChangeSlices
import Derived.KernelRfl
import Derived.ProofKit
import Derived.WalkKit
import Derived.Lib.Hide
import Derived.Deep.LoopGhost
import Derived.Deep.QuietTactic
set_option maxRecDepth 100000
set_option maxHeartbeats 12800000
set_option linter.unusedSimpArgs false
set_option linter.unusedVariables false
namespace Go.Proofs.YteoogioanjkacaaGreatDoor
open Go.RowKit Go.Lib
def StAt (w:World) (g:Nat) (s:St):Prop:=w.heap[g]? = some (.cells #[.int .i64 (s.n:Nat),.int .i64 (s.i:Nat),.int .i64 (s.d:Nat),.int .i64 (s.r:Nat)] 101 (0,0))
section
variable {w w' : World} {g : Nat} {s : St}
theorem StAt.lt (h:StAt w g s):g < w.heap.size:=by
 rcases Nat.lt_or_ge g w.heap.size with k | k
 ·exact k
 ·rw [StAt,Array.getElem?_eq_none k] at h;cases h
theorem StAt.grow (h:StAt w g s) (hg:Grow w w'):StAt w' g s:=(hg.block g h.lt).trans h
theorem StAt.at0 (h:StAt w g s):w.cell? ⟨g,0,none⟩ = some (.int .i64 (s.n:Nat)):=cell_of_row w g 0 _ _ (0,0) h
theorem StAt.at1 (h:StAt w g s):w.cell? ⟨g,1,none⟩ = some (.int .i64 (s.i:Nat)):=cell_of_row w g 1 _ _ (0,0) h
theorem StAt.at2 (h:StAt w g s):w.cell? ⟨g,2,none⟩ = some (.int .i64 (s.d:Nat)):=cell_of_row w g 2 _ _ (0,0) h
theorem StAt.at3 (h:StAt w g s):w.cell? ⟨g,3,none⟩ = some (.int .i64 (s.r:Nat)):=cell_of_row w g 3 _ _ (0,0) h
theorem StAt.froz (h:StAt w g s) (j:Nat):w.frozen? ⟨g,j,none⟩ = false:=frozen_of_row w g j _ _ h
theorem StAt.put0 (h:StAt w g s) (v:Nat):StAt (w.setCell ⟨g,0,none⟩ (.int .i64 (v:Nat))) g ⟨v,s.i,s.d,s.r⟩:=heap_setCell_same w g 0 _ _ _ h
theorem StAt.put1 (h:StAt w g s) (v:Nat):StAt (w.setCell ⟨g,1,none⟩ (.int .i64 (v:Nat))) g ⟨s.n,v,s.d,s.r⟩:=heap_setCell_same w g 1 _ _ _ h
theorem StAt.put2 (h:StAt w g s) (v:Nat):StAt (w.setCell ⟨g,2,none⟩ (.int .i64 (v:Nat))) g ⟨s.n,s.i,v,s.r⟩:=heap_setCell_same w g 2 _ _ _ h
theorem StAt.put3 (h:StAt w g s) (v:Nat):StAt (w.setCell ⟨g,3,none⟩ (.int .i64 (v:Nat))) g ⟨s.n,s.i,s.d,v⟩:=heap_setCell_same w g 3 _ _ _ h
end
def addR (e:Nat) (s:St) (ns:List Nd):Option St:=(par e (ns.drop s.n)).bind fun t => if s.i + t.i ≤ 1048576 then some t else none
def adv (D:Nat) (s t:St):St:=⟨s.n + t.n,s.i + t.i,max s.d (D - 1 + t.d),max s.r t.r⟩
def AddP (e D:Nat) (s:St) (g:Nat) (ns:List Nd) (w:World) (x:Ending) (w':World):Prop :=
 Below g w w' ∧ match addR e s ns with
  | some t => x = .returned (.bool true) ∧ StAt w' g (adv D s t)
  | none => x = .returned (.bool false)
theorem AddP.no {e D:Nat} {s:St} {g:Nat} {ns:List Nd} {w w':World} (h:addR e s ns = none) (hb:Below g w w'):AddP e D s g ns w (.returned (.bool false)) w':=by
 refine ⟨hb,?_⟩;rw [h]
theorem AddP.yes {e D:Nat} {s t:St} {g:Nat} {ns:List Nd} {w w':World} (h:addR e s ns = some t) (hb:Below g w w') (hs:StAt w' g (adv D s t)):AddP e D s g ns w (.returned (.bool true)) w':=by
 refine ⟨hb,?_⟩;rw [h];exact ⟨rfl,hs⟩
theorem addR_end {e:Nat} {s:St} {ns:List Nd} (h:s.n = ns.length):addR e s ns = none:=by
 unfold addR;rw [h,List.drop_length,par_nil];rfl
theorem addR_zero {s:St} {ns:List Nd}:addR 0 s ns = none:=rfl
theorem addR_bad {e:Nat} {s:St} {ns:List Nd} (h:s.n < ns.length) (hb:okB (ns.getD s.n nd0) = false):addR (e + 1) s ns = none:=by
 unfold addR;rw [drop_nd h,par_cons,hb];rfl
theorem addR_much {e:Nat} {s:St} {ns:List Nd} (h:s.n < ns.length) (hb:1048576 < s.i + cnt (ns.getD s.n nd0).shp):addR (e + 1) s ns = none:=by
 unfold addR;rw [drop_nd h]
 cases hp:par (e + 1) (ns.getD s.n nd0 :: ns.drop (s.n + 1)) with
 | none => rfl
 | some t =>
  obtain ⟨e',n,l',t',he,hl,hn,ht,rfl⟩:=par_parts hp
  cases hl
  rw [Option.bind_some,if_neg];simp only [top];omega
theorem addR_leaf {e:Nat} {s:St} {ns:List Nd} (h:s.n < ns.length) (hb:okB (ns.getD s.n nd0) = true) (hk:(ns.getD s.n nd0).kind ≠ 5) (hi:s.i + cnt (ns.getD s.n nd0).shp ≤ 1048576) :
  addR (e + 1) s ns = some ⟨1,cnt (ns.getD s.n nd0).shp,1,(ns.getD s.n nd0).shp.length⟩:=by
 unfold addR;have hkc:kc (ns.getD s.n nd0) = 0:=by simp only [kc];rw [if_neg hk]
 rw [drop_nd h,par_mk (t:=st0) hb (by rw [hkc];rfl),Option.bind_some]
 have e1:top (ns.getD s.n nd0) st0 = ⟨1,cnt (ns.getD s.n nd0).shp,1,(ns.getD s.n nd0).shp.length⟩:=by simp [top,st0]
 rw [e1];exact if_pos hi
theorem ok_rank {n:Nd} (h:okB n = true):n.shp.length ≤ 16:=by
 unfold okB at h;rw [Bool.and_eq_true] at h;exact (right_iff.1 h.1).1
theorem parK_rank {f:List Nd → Option St} (hf:∀ l s,f l = some s → s.r ≤ 16):∀ {c:Nat} {l:List Nd} {t:St},parK f c l = some t → t.r ≤ 16
 | 0,l,t,h => by rw [parK_zero] at h;cases h;exact Nat.zero_le _
 | c + 1,l,t,h => by
  obtain ⟨a,b,ha,hb,rfl⟩:=parK_some h;have h1:=parK_rank hf ha;have h2:=hf _ _ hb;simp only [St.plus];omega
theorem par_rank:∀ {d:Nat} {l:List Nd} {s:St},par d l = some s → s.r ≤ 16
 | 0,l,s,h => by cases h
 | d + 1,l,s,h => by
  obtain ⟨e,n,l',t,he,rfl,hn,ht,rfl⟩:=par_parts h;obtain rfl:d = e:=by omega
  have h1:=parK_rank (fun l s h => par_rank h) ht;have h2:=ok_rank hn;simp only [top];omega
theorem addR_nest {e:Nat} {s:St} {ns:List Nd} {n:Nd} {ι:Nat} {t:St} (hd:ns.drop s.n = n :: ns.drop (s.n + 1)) (hb:okB n = true) (hk:n.kind = 5) (hι:ι = cnt n.shp)
  (ht:parK (par e) ι (ns.drop (s.n + 1)) = some t) (hi:s.i + ι + t.i ≤ 1048576):addR (e + 1) s ns = some (top n t):=by
 have hkc:kc n = ι:=by simp only [kc];rw [if_pos hk,hι]
 unfold addR;rw [hd,par_mk hb (by rw [hkc];exact ht),Option.bind_some,if_pos]
 simp only [top];omega
theorem addR_nest_no {e:Nat} {s:St} {ns:List Nd} {n:Nd} {ι j:Nat} {t:St} {w:St} (hd:ns.drop s.n = n :: ns.drop (s.n + 1)) (hb:okB n = true) (hk:n.kind = 5) (hι:ι = cnt n.shp) (hj:j < ι)
  (ht:parK (par e) j (ns.drop (s.n + 1)) = some t) (hw:w.n = s.n + 1 + t.n ∧ w.i = s.i + ι + t.i) (h:addR e w ns = none):addR (e + 1) s ns = none:=by
 have hkc:kc n = ι:=by simp only [kc];rw [if_pos hk,hι]
 have hdd:(ns.drop (s.n + 1)).drop t.n = ns.drop w.n:=by rw [List.drop_drop,hw.1]
 unfold addR;rw [hd,par_cons,if_pos hb,hkc]
 cases hp:parK (par e) ι (ns.drop (s.n + 1)) with
 | none => rfl
 | some u =>
  rw [Option.map_some,Option.bind_some,if_neg];obtain ⟨a,ha,_,hai,_⟩:=parK_to hp (j + 1) (by omega)
  obtain ⟨t',b,ht',hb',rfl⟩:=parK_some ha;rw [ht] at ht'
  cases ht'
  rw [hdd] at hb';unfold addR at h;rw [hb',Option.bind_some] at h;have:¬ w.i + b.i ≤ 1048576:=fun hc => by rw [if_pos hc] at h;cases h
  simp only [top,St.plus] at hai ⊢;omega
theorem addR_some {e:Nat} {s t:St} {ns:List Nd} (h:addR e s ns = some t):par e (ns.drop s.n) = some t ∧ s.i + t.i ≤ 1048576:=by
 unfold addR at h
 cases hp:par e (ns.drop s.n) with
 | none => simp [hp] at h
 | some u =>
  simp only [hp,Option.bind_some] at h;split at h
  ·cases h;exact ⟨rfl,by assumption⟩
  ·cases h
theorem max_is (a b:Nat):(if ((a:Nat):Int) < ((b:Nat):Int) then ((b:Nat):Int) else ((a:Nat):Int)) = ((max a b:Nat):Int):=by split <;> omega
theorem max_is' (a b:Nat):(if a < b then ((b:Nat):Int) else ((a:Nat):Int)) = ((max a b:Nat):Int):=by split <;> omega
theorem add_any:∀ (e D g:Nat) (s:St) (A:Option Addr) (n c:Nat) (ns:List Nd) (w:World),D + e = 17 → 1 ≤ D → ns.length = n → n ≤ 1100000 → s.n ≤ n → s.i ≤ 1048576 → s.d ≤ 16 → s.r ≤ 1100000 → Fits ns → StAt w g s → Nodes w g A ns →
  Calls Tryz.prog 112 #[.pointer (some ⟨g,0,none⟩),.slice A n c,.int .i64 (D:Nat)] w (AddP e D s g ns w):=by
 intro e
 induction e with
 | zero =>
  intro D g s A n c ns w hD hD1 hn hnb hsn hsi hsd hsr hf hst hns;obtain rfl:D = 17:=by omega
  have c0:=hst.at0;clear hst hns
  by_cases hE:s.n = n
  ·rw [hE] at c0
   go_enter Tryz.func112,Tryz.ntmps112
   go_wp2;go_ret;exact AddP.no addR_zero (Below.refl _ _)
  ·have hE':(((s.n:Nat):Int) == ((n:Nat):Int)) = false:=by simp;omega
   clear hE hsn
   go_enter Tryz.func112,Tryz.ntmps112
   go_wp2;go_ret;exact AddP.no addR_zero (Below.refl _ _)
 | succ e ih =>
  intro D g s A n c ns w hD hD1 hn hnb hsn hsi hsd hsr hf hst hns;have c0:=hst.at0;have HST:=Hh hst;have HNS:=Hh hns;have HN:=Hh hn;have HF:=Hh hf;have IH:=Hh ih;clear ih hst hns hn hf;have hD16:¬ (16:Int) < ((D:Nat):Int):=by omega
  by_cases hE:s.n = n
  ·have HR:=Hh (addR_end (e:=e + 1) (s:=s) (ns:=ns) (by rw [HN.out];exact hE))
   rw [hE] at c0
   go_enter Tryz.func112,Tryz.ntmps112
   go_wp2;go_ret;exact AddP.no HR.out (Below.refl _ _)
  have hlt:s.n < n:=by omega
  have hE':(((s.n:Nat):Int) == ((n:Nat):Int)) = false:=by simp;omega
  clear hE;have hl:s.n < ns.length:=by rw [HN.out];exact hlt
  have HBAD:=Hh (addR_bad (e:=e) (s:=s) (ns:=ns) hl);have HMUCH:=Hh (addR_much (e:=e) (s:=s) (ns:=ns) hl);have HLEAF:=Hh (addR_leaf (e:=e) (s:=s) (ns:=ns) hl);have HDROP:=Hh (drop_nd hl);have HFIT:=Hh (HF.out.at_ s.n);obtain ⟨b,off,rfl,hb,hat⟩:=HNS.out (by omega)
  obtain ⟨A1,c1,A2,c2,A3,c3,q0,q1,q2,q3,hnd⟩:=hat s.n hl;have HND:=Hh hnd;clear hat hnd hl;generalize hnode:ns.getD s.n nd0 = nd at *;clear hnode;have HIT:=Hh (fun W h => itemsOf_any nd A1 A2 A3 c1 c2 c3 W HFIT.out h);obtain ⟨β,hβ⟩:∃ β,okB nd = β:=⟨_,rfl⟩;obtain ⟨ι,hι⟩:∃ ι,itm nd = ι:=⟨_,rfl⟩;have hιb:ι ≤ 1048576:=hι ▸ itm_le nd;rw [hβ,hι] at HIT;have HB:=Hh hβ;have HI:=Hh hι;clear hβ hι;have hr1:=HFIT.out.2.1;have HLT:=Hh HST.out.lt;have HBG:=Hh hb;clear hb;obtain ⟨sn,si,sd,sr⟩:=s;dsimp only at *
  go_enter Tryz.func112,Tryz.ntmps112
  go_wp2_with fail;refine (HIT.out _ ((HND.out.more (Nat.le_of_lt HLT.out)).grow (grow_new _ _))).mono ?_;rintro x w2 ⟨rfl,hw2⟩;have HG2:=Hh ((grow_new w _).trans hw2);have HBX:=Hh ((boxN_new w nd.kind A1 nd.shp.length c1 A2 nd.ints.length c2 A3 nd.decs.length c3).grow hw2);have hs2:=HST.out.grow HG2.out;have r0:=hs2.at0;have r1:=hs2.at1;have r2:=hs2.at2;have r3:=hs2.at3;have f0:=hs2.froz 0;have f1:=hs2.froz 1;have f2:=hs2.froz 2;have f3:=hs2.froz 3;have HS2:=Hh hs2;have HBel:=Hh (Below.mono HG2.out (Nat.le_of_lt HLT.out));dsimp only at r0 r1 r2 r3;clear hs2 hw2 HIT c0 q0 q1 q2 q3
  cases β with
  | false =>
   have HR:=Hh (HBAD.out HB.out);clear HBAD HMUCH HLEAF;go_wp2;go_ret;exact AddP.no HR.out HBel.out
  | true =>
   have hιc:Hid (ι = cnt nd.shp):=Hh (by rw [← HI.out];unfold itm;rw [if_pos HB.out])
   by_cases hmuch:1048576 < si + ι
   ·have HR:=Hh (HMUCH.out (by rw [← hιc.out];exact hmuch))
    clear HBAD HMUCH HLEAF;have hmi:(1048576:Int) < ((si:Nat):Int) + ((ι:Nat):Int):=by omega
    go_wp2;go_ret;exact AddP.no HR.out HBel.out
   have hmi:decide ((1048576:Int) < ((si:Nat):Int) + ((ι:Nat):Int)) = false:=decide_eq_false (by omega)
   have hmx:=max_is sd D;have hmx':=max_is' sd D;generalize hM:max sd D = M at hmx hmx';have HM:=Hh hM;clear hM;have b0:=HBX.out.at0;have b1:=HBX.out.at1;clear HBAD HMUCH;go_wp2;generalize hw3:((w2.setCell ⟨g,0,none⟩ (.int .i64 (((sn:Nat):Int) + 1))).setCell ⟨g,1,none⟩ (.int .i64 (((si:Nat):Int) + ((ι:Nat):Int)))).setCell ⟨g,2,none⟩ (.int .i64 ((M:Nat):Int)) = w3;have HS3:Hid (StAt w3 g ⟨sn + 1,si + ι,M,sr⟩):=Hh (by rw [← hw3];exact ((HS2.out.put0 (sn + 1)).put1 (si + ι)).put2 M)
   have HB3:Hid (Below g w w3):=Hh (by rw [← hw3];exact Below.setCell (Below.setCell (Below.setCell HBel.out (Nat.le_refl _) _) (Nat.le_refl _) _) (Nat.le_refl _) _)
   have HX3:Hid (BoxN w3 w.heap.size nd.kind A1 nd.shp.length c1 A2 nd.ints.length c2 A3 nd.decs.length c3):=Hh (by
    have hne:w.heap.size ≠ g:=by have:=HLT.out;omega
    rw [← hw3];refine (heap_setCell_other _ _ _ _ (show w.heap.size ≠ g from hne)).trans ?_;refine (heap_setCell_other _ _ _ _ (show w.heap.size ≠ g from hne)).trans ?_
    exact (heap_setCell_other _ _ _ _ (show w.heap.size ≠ g from hne)).trans HBX.out)
   have HZ3:Hid (w.heap.size ≤ w3.heap.size):=Hh HB3.out.size;clear hw3 r0 r1 r2 r3 f0 f1 f2 f3 b0 b1 HS2 HBX hmx hmx';have r3:=HS3.out.at3;have f3:=HS3.out.froz 3;dsimp only at r3;have b0:=HX3.out.at0;have b1:=HX3.out.at1;have hne:¬ w.heap.size = g:=by have:=HLT.out;omega
   generalize hl1:nd.shp.length = l1 at *;have hmx:=max_is sr l1;have hmx':=max_is' sr l1;generalize hR:max sr l1 = R at hmx hmx';have HR:=Hh hR;clear hR
   go_region
   generalize hw4:(w3.setCell ⟨g,3,none⟩ (.int .i64 ((R:Nat):Int))).drew = w4;have HS4:Hid (StAt w4 g ⟨sn + 1,si + ι,M,R⟩):=Hh (by rw [← hw4];exact HS3.out.put3 R)
   have HB4:Hid (Below g w w4):=Hh (by rw [← hw4];exact (Below.setCell HB3.out (Nat.le_refl _) _).drew)
   have q0:w4.cell? ⟨w.heap.size,0,none⟩ = some (.int .i64 nd.kind):=by
    rw [← hw4];have hx:BoxN (w3.setCell ⟨g,3,none⟩ (.int .i64 ((R:Nat):Int))).drew w.heap.size nd.kind A1 l1 c1 A2 nd.ints.length c2 A3 nd.decs.length c3:=(heap_setCell_other w3 _ _ _ (show w.heap.size ≠ g from hne)).trans HX3.out;exact hx.at0
   clear hw4 HS3 HB3 HX3 HZ3 r3 f3 b0 b1 hmx hmx' hne;have HL1:=Hh hl1;clear hl1
   by_cases hk:nd.kind = 5
   ·rw [hk] at q0
    have HK:=Hh hk;clear hk;have HNO:=Hh (fun j t W (hj:j < ι) ht hw h => addR_nest_no (e:=e) (s:=⟨sn,si,sd,sr⟩) (w:=W) (j:=j) (t:=t) HDROP.out HB.out HK.out hιc.out hj ht hw h);have HYES:=Hh (fun t ht hi => addR_nest (e:=e) (s:=⟨sn,si,sd,sr⟩) (t:=t) HDROP.out HB.out HK.out hιc.out ht hi);clear HLEAF HDROP;go_wp2
    go_loopg [83] ι (fun gk s83 wr => ∃ (j:Nat) (t:St),j ≤ ι ∧ gk = ι - j ∧ s83 = .int .i64 (j:Nat) ∧ Hid (parK (par e) j (ns.drop (sn + 1)) = some t) ∧ Hid (si + ι + t.i ≤ 1048576) ∧
     Hid (StAt wr g ⟨sn + 1 + t.n,si + ι + t.i,max M (D + t.d),max R t.r⟩) ∧ Hid (Below g w wr))
    case atStart =>
     refine ⟨0,st0,Nat.zero_le _,rfl,rfl,Hh rfl,Hh (by simp only [st0];omega),Hh ?_,HB4⟩
     have e1:(⟨sn + 1 + st0.n,si + ι + st0.i,max M (D + st0.d),max R st0.r⟩:St) = ⟨sn + 1,si + ι,M,R⟩:=by
      have:=HM.out;simp only [st0,St.mk.injEq];refine ⟨?_,?_,?_,?_⟩ <;> first | trivial | omega
     rw [e1];exact HS4.out
    case round =>
     obtain ⟨j,t,hj,rfl,rfl,HP,HI2,HS,HBB⟩:=hrel
     by_cases hjl:j < ι
     ·have hji:((j:Nat):Int) < ((ι:Nat):Int):=by omega
      have hlen:=parK_len (fun l s h => (par_len h).2.1) HP.out;rw [List.length_drop,HN.out] at hlen;have hdeep:=parK_deep (fun l s h => (par_len h).2.2.2) HP.out;have hrank:=parK_rank (fun l s h => par_rank h) HP.out
      have HC:=Hh (IH.out (D + 1) g ⟨sn + 1 + t.n,si + ι + t.i,max M (D + t.d),max R t.r⟩ (some ⟨b,off,none⟩) n c ns wr (by omega) (by omega) HN.out hnb (by show sn + 1 + t.n ≤ n;omega) HI2.out
       (by have:=HM.out;show max M (D + t.d) ≤ 16;omega) (by have:=HR.out;show max R t.r ≤ 1100000;omega) HF.out HS.out (HNS.out.below HBB.out))
      cases ha:addR e ⟨sn + 1 + t.n,si + ι + t.i,max M (D + t.d),max R t.r⟩ ns with
      | none =>
       have HNO':=Hh (HNO.out j t _ hjl HP.out ⟨rfl,rfl⟩ ha);have HA:=Hh ha;clear ha hlen hdeep hrank;go_wp2_with fail;refine (HC.out).mono ?_;rintro x w5 ⟨hbel,hx⟩;rw [HA.out] at hx;subst hx;have HB5:=Hh (HBB.out.trans hbel);clear hbel HC;go_wp2;go_ret;exact AddP.no HNO'.out HB5.out
      | some t' =>
       have HA:=Hh ha;clear ha hlen hdeep hrank;go_wp2_with fail;refine (HC.out).mono ?_;rintro x w5 ⟨hbel,hx⟩;rw [HA.out] at hx;obtain ⟨rfl,hs5⟩:=hx;have HB5:=Hh (HBB.out.trans hbel);have HS5:=Hh hs5;clear hbel HC hs5;go_wp2;go_roundg (ι - (j + 1))
       case rel =>
        obtain ⟨hp',hi'⟩:=addR_some HA.out;refine ⟨j + 1,t.plus t',by omega,rfl,by go_num,Hh (parK_mk HP.out (by rw [List.drop_drop];exact hp')),Hh (by simp only [St.plus];dsimp only at hi';omega),Hh ?_,HB5⟩
        have e1:(⟨sn + 1 + (t.plus t').n,si + ι + (t.plus t').i,max M (D + (t.plus t').d),max R (t.plus t').r⟩:St) = adv (D + 1) ⟨sn + 1 + t.n,si + ι + t.i,max M (D + t.d),max R t.r⟩ t':=by
         simp only [adv,St.plus,St.mk.injEq];omega
        rw [e1];exact HS5.out
       case measure => omega
     ·obtain rfl:j = ι:=by omega
      go_wp2;go_ret;refine AddP.yes (HYES.out t HP.out HI2.out) HBB.out ?_;have e1:adv D ⟨sn,si,sd,sr⟩ (top nd t) = ⟨sn + 1 + t.n,si + j + t.i,max M (D + t.d),max R t.r⟩:=by
       have:=HM.out;have:=HR.out;have:=HL1.out;have:=hιc.out;simp only [adv,top,St.mk.injEq];omega
      rw [e1];exact HS.out
   ·have hkb:(nd.kind != 5) = true:=by simpa using hk
    have HL:=Hh (HLEAF.out HB.out hk (by rw [← hιc.out];omega))
    clear HLEAF;go_wp2;go_ret;refine AddP.yes HL.out HB4.out ?_;have e1:adv D ⟨sn,si,sd,sr⟩ ⟨1,cnt nd.shp,1,l1⟩ = ⟨sn + 1,si + ι,M,R⟩:=by
     have:=HM.out;have:=HR.out;have:=hιc.out;simp only [adv,St.mk.injEq];refine ⟨?_,?_,?_,?_⟩ <;> first | trivial | omega
    rw [e1];exact HS4.out
open Go.RowKit Go.Lib
def SaysS (s:St) (β:Bool) (w:World) (e:Ending) (w':World):Prop :=
 e = .returned (.tuple #[.agg #[.int .i64 (s.n:Nat),.int .i64 (s.i:Nat),.int .i64 (s.d:Nat),.int .i64 (s.r:Nat)],.bool β]) ∧ Grow w w'
theorem addR_first (ns:List Nd):addR 16 st0 ns = fstD ns:=by
 unfold addR fstD;simp [st0]
theorem adv_first (t:St):adv 1 st0 t = t:=by
 obtain ⟨a,b,c,d⟩:=t;simp only [adv,st0,St.mk.injEq];refine ⟨?_,?_,?_,?_⟩ <;> omega
theorem first_any (A:Option Addr) (n c:Nat) (ns:List Nd) (w:World) (hn:ns.length = n) (hnb:n ≤ 1100000) (hf:Fits ns) (hns:Nodes w w.heap.size A ns) :
  Calls Tryz.prog 74 #[.slice A n c] w (SaysS (fs ns) (fstD ns).isSome w):=by
 let wA:=(w.alloc (.cells #[.int .i64 0,.int .i64 0,.int .i64 0,.int .i64 0] 101)).alloc (.cells #[.int .i64 0,.int .i64 0,.int .i64 0,.int .i64 0] 101)
 have HG:=Hh (show Grow w wA from grow_new2 _ _ _);have hsz:wA.heap.size = w.heap.size + 2:=by simp [wA]
 have HST:Hid (StAt wA (w.heap.size + 1) st0):=Hh (by
  have h:=heap_alloc_new (w.alloc (.cells #[.int .i64 0,.int .i64 0,.int .i64 0,.int .i64 0] 101)) (.cells #[.int .i64 0,.int .i64 0,.int .i64 0,.int .i64 0] 101);have e1:(w.alloc (.cells #[.int .i64 0,.int .i64 0,.int .i64 0,.int .i64 0] 101)).heap.size = w.heap.size + 1:=by simp
  rw [e1] at h
  exact h)
 have HX:Hid (StAt wA w.heap.size st0):=Hh (StAt.grow (show StAt (w.alloc (.cells #[.int .i64 0,.int .i64 0,.int .i64 0,.int .i64 0] 101)) w.heap.size st0 from heap_alloc_new w _) (grow_new _ _));have HC:=Hh (add_any 16 1 (w.heap.size + 1) st0 A n c ns wA (by omega) (by omega) hn hnb (by simp [st0]) (by simp [st0]) (by simp [st0]) (by simp [st0]) hf HST.out ((hns.below HG.out).more (by omega)))
 have HSZ:=Hh hsz;clear hn hf hns hsz
 go_enter Tryz.func74,Tryz.ntmps74
 go_wp2_with fail;refine (HC.out).mono ?_;rintro x w2 ⟨hbel,hx⟩;rw [addR_first] at hx;have HG2:Hid (Grow w w2):=Hh (Below.trans HG.out (Below.mono hbel (by omega)))
 have hx2:StAt w2 w.heap.size st0:=(hbel.block w.heap.size (by omega)).trans HX.out
 have r0:=hx2.at0;have r1:=hx2.at1;have r2:=hx2.at2;have r3:=hx2.at3;have f0:=hx2.froz 0;have f1:=hx2.froz 1;have f2:=hx2.froz 2;have f3:=hx2.froz 3;have HX2:=Hh hx2;clear hx2 hbel HC HG HST HX HSZ
 cases hfs:fstD ns with
 | none =>
  rw [hfs] at hx;dsimp only at hx;subst hx;have HFS:=Hh (fs_none hfs);have HFN:=Hh hfs;clear hfs;simp only [st0] at r0 r1 r2 r3;go_wp2;generalize hw3:World.setCell _ _ _ = w3;have hs3:StAt w3 w.heap.size ⟨0,0,0,0⟩:=by rw [← hw3];exact (((HX2.out.put0 0).put1 0).put2 0).put3 0
  have HG3:=Hh (show Grow w w3 by rw [← hw3];exact (((HG2.out.put (Nat.le_refl _) 0 _).put (Nat.le_refl _) 1 _).put (Nat.le_refl _) 2 _).put (Nat.le_refl _) 3 _)
  have c0:=hs3.at0;have c1:=hs3.at1;have c2:=hs3.at2;have c3:=hs3.at3;exact bodyPost_ret (v:=.tuple #[.agg #[.int .i64 0,.int .i64 0,.int .i64 0,.int .i64 0],.bool false]) (by simp [results,Tryz.results74,go_sem,c0,c1,c2,c3]) rfl ⟨by rw [HFS.out,HFN.out];rfl,HG3.out⟩
 | some t =>
  rw [hfs] at hx;dsimp only at hx;obtain ⟨rfl,hs⟩:=hx;rw [adv_first] at hs;have g0:=hs.at0;have g1:=hs.at1;have g2:=hs.at2;have g3:=hs.at3;have HFS:=Hh (fs_some hfs);have HFN:=Hh hfs;clear hfs;go_wp2;generalize hw3:World.setCell _ _ _ = w3;have hs3:StAt w3 w.heap.size t:=by rw [← hw3];exact (((HX2.out.put0 t.n).put1 t.i).put2 t.d).put3 t.r
  have HG3:=Hh (show Grow w w3 by rw [← hw3];exact (((HG2.out.put (Nat.le_refl _) 0 _).put (Nat.le_refl _) 1 _).put (Nat.le_refl _) 2 _).put (Nat.le_refl _) 3 _)
  have c0:=hs3.at0;have c1:=hs3.at1;have c2:=hs3.at2;have c3:=hs3.at3;exact bodyPost_ret (v:=.tuple #[.agg #[.int .i64 (t.n:Nat),.int .i64 (t.i:Nat),.int .i64 (t.d:Nat),.int .i64 (t.r:Nat)],.bool true]) (by simp [results,Tryz.results74,go_sem,c0,c1,c2,c3]) rfl ⟨by rw [HFS.out,HFN.out];rfl,HG3.out⟩
theorem whole_any (A:Option Addr) (n c:Nat) (ns:List Nd) (w:World) (hn:ns.length = n) (hnb:n ≤ 1100000) (hf:Fits ns) (hns:Nodes w w.heap.size A ns) :
  Calls Tryz.prog 73 #[.slice A n c] w (SaysS (ws ns) (rightA ns) w):=by
 have HC:=Hh (fun W h => first_any A n c ns W hn hnb hf h);have HNS:=Hh hns;have HN:=Hh hn;clear hn hf hns;have HZ:Hid (∀ W,Grow (w.alloc (.cells #[.int .i64 0,.int .i64 0,.int .i64 0,.int .i64 0] 101)) W → StAt W w.heap.size st0) :=
  Hh (fun W hg => StAt.grow (show StAt (w.alloc (.cells #[.int .i64 0,.int .i64 0,.int .i64 0,.int .i64 0] 101)) w.heap.size st0 from heap_alloc_new w _) hg)
 have HK:Hid (((fstD ns).isSome = false ∧ fs ns = st0 ∧ ws ns = st0 ∧ rightA ns = false) ∨ ((fstD ns).isSome = true ∧ (fs ns).n < n ∧ ws ns = st0 ∧ rightA ns = false) ∨ ((fstD ns).isSome = true ∧ (fs ns).n = n ∧ ws ns = fs ns ∧ rightA ns = true)):=Hh (by
  cases hfs:fstD ns with
  | none =>
   have hw:whlD ns = none:=by unfold whlD;rw [hfs];rfl
   exact .inl ⟨rfl,fs_none hfs,ws_none hw,by unfold rightA;rw [hw];rfl⟩
  | some t =>
   have hl:=(par_len (fst_some hfs).1).2.1;rw [HN.out] at hl
   by_cases he:t.n = n
   ·have hw:whlD ns = some t:=whl_mk (fst_some hfs).1 (fst_some hfs).2 (by rw [HN.out];exact he)
    exact .inr (.inr ⟨rfl,by rw [fs_some hfs];exact he,by rw [ws_some hw,fs_some hfs],by unfold rightA;rw [hw];rfl⟩)
   ·have hw:whlD ns = none:=by unfold whlD;rw [hfs,Option.bind_some,if_neg (by rw [HN.out];exact he)]
    exact .inr (.inl ⟨rfl,by rw [fs_some hfs];omega,ws_none hw,by unfold rightA;rw [hw];rfl⟩))
 have hfb:(fs ns).n ≤ n:=by rcases HK.out with ⟨_,h,_⟩ | ⟨_,h,_⟩ | ⟨_,h,_⟩ <;> first | omega | (rw [h];exact Nat.zero_le _)
 generalize (fstD ns).isSome = β at *;generalize fs ns = s at *;generalize ws ns = z at *;generalize rightA ns = γ at *;obtain ⟨p,q,u,v⟩:=s;dsimp only at HK HC hfb
 go_enter Tryz.func73,Tryz.ntmps73
 go_wp2_with fail;refine (HC.out _ (HNS.out.grow (grow_new _ _))).mono ?_;rintro x w2 ⟨rfl,hg⟩;have HX2:=Hh ((HZ.out _ hg).grow (grow_new w2 (.cells #[.int .i64 (p:Nat),.int .i64 (q:Nat),.int .i64 (u:Nat),.int .i64 (v:Nat)] 101)));have HX3:=Hh (show StAt (w2.alloc (.cells #[.int .i64 (p:Nat),.int .i64 (q:Nat),.int .i64 (u:Nat),.int .i64 (v:Nat)] 101)) w2.heap.size ⟨p,q,u,v⟩ from heap_alloc_new w2 _);have HG2:=Hh (((grow_new w _).trans hg).trans (grow_new w2 (.cells #[.int .i64 (p:Nat),.int .i64 (q:Nat),.int .i64 (u:Nat),.int .i64 (v:Nat)] 101)));have hne:¬ w2.heap.size = w.heap.size:=by have:=HZ.out _ hg;have:=this.lt;omega
 have hne':¬ w.heap.size = w2.heap.size:=fun h => hne h.symm;clear hg HC HZ;have r0:=HX2.out.at0;have r1:=HX2.out.at1;have r2:=HX2.out.at2;have r3:=HX2.out.at3;have f0:=HX2.out.froz 0;have f1:=HX2.out.froz 1;have f2:=HX2.out.froz 2;have f3:=HX2.out.froz 3
 rcases HK.out with ⟨rfl,hs,rfl,rfl⟩ | ⟨rfl,hs,rfl,rfl⟩ | ⟨rfl,hs,rfl,rfl⟩
 ·clear hs HK
  go_wp2;generalize hw3:World.setCell _ _ _ = w3;have hs3:StAt w3 w.heap.size ⟨0,0,0,0⟩:=by rw [← hw3];exact (((HX2.out.put0 0).put1 0).put2 0).put3 0
  have HG3:=Hh (show Grow w w3 by rw [← hw3];exact (((HG2.out.put (Nat.le_refl _) 0 _).put (Nat.le_refl _) 1 _).put (Nat.le_refl _) 2 _).put (Nat.le_refl _) 3 _)
  have c0:=hs3.at0;have c1:=hs3.at1;have c2:=hs3.at2;have c3:=hs3.at3;exact bodyPost_ret (v:=.tuple #[.agg #[.int .i64 0,.int .i64 0,.int .i64 0,.int .i64 0],.bool false]) (by simp [results,Tryz.results73,go_sem,c0,c1,c2,c3]) rfl ⟨rfl,HG3.out⟩
 ·have hsi:((p:Nat):Int) < ((n:Nat):Int):=by omega
  have g0:=HX3.out.at0;clear hs HK;dsimp only at g0;go_wp2;generalize hw3:World.setCell _ _ _ = w3;have hs3:StAt w3 w.heap.size ⟨0,0,0,0⟩:=by rw [← hw3];exact (((HX2.out.put0 0).put1 0).put2 0).put3 0
  have HG3:=Hh (show Grow w w3 by rw [← hw3];exact (((HG2.out.put (Nat.le_refl _) 0 _).put (Nat.le_refl _) 1 _).put (Nat.le_refl _) 2 _).put (Nat.le_refl _) 3 _)
  have c0:=hs3.at0;have c1:=hs3.at1;have c2:=hs3.at2;have c3:=hs3.at3;exact bodyPost_ret (v:=.tuple #[.agg #[.int .i64 0,.int .i64 0,.int .i64 0,.int .i64 0],.bool false]) (by simp [results,Tryz.results73,go_sem,c0,c1,c2,c3]) rfl ⟨rfl,HG3.out⟩
 ·subst hs
  have hsi:¬ ((p:Nat):Int) < ((p:Nat):Int):=by omega
  have g0:=HX3.out.at0;have g1:=HX3.out.at1;have g2:=HX3.out.at2;have g3:=HX3.out.at3;clear HK;dsimp only at g0 g1 g2 g3;go_wp2;generalize hw3:World.setCell _ _ _ = w3;have hs3:StAt w3 w.heap.size ⟨p,q,u,v⟩:=by rw [← hw3];exact (((HX2.out.put0 p).put1 q).put2 u).put3 v
  have HG3:=Hh (show Grow w w3 by rw [← hw3];exact (((HG2.out.put (Nat.le_refl _) 0 _).put (Nat.le_refl _) 1 _).put (Nat.le_refl _) 2 _).put (Nat.le_refl _) 3 _)
  have c0:=hs3.at0;have c1:=hs3.at1;have c2:=hs3.at2;have c3:=hs3.at3;exact bodyPost_ret (v:=.tuple #[.agg #[.int .i64 (p:Nat),.int .i64 (q:Nat),.int .i64 (u:Nat),.int .i64 (v:Nat)],.bool true]) (by simp [results,Tryz.results73,go_sem,c0,c1,c2,c3]) rfl ⟨rfl,HG3.out⟩
def Ret (v:Value) (w:World) (e:Ending) (w':World):Prop:=e = .returned v ∧ Grow w w'
theorem aright_any (A:Option Addr) (n c:Nat) (ns:List Nd) (w:World) (hn:ns.length = n) (hnb:n ≤ 1100000) (hf:Fits ns) (hns:Nodes w w.heap.size A ns) :
  Calls Tryz.prog 34 #[.slice A n c] w (Ret (.bool (rightA ns)) w):=by
 have HC:=Hh (whole_any A n c ns w hn hnb hf hns);clear hn hf hns;generalize ws ns = s at *;generalize rightA ns = β at *;obtain ⟨p,q,u,v⟩:=s
 try dsimp only
 go_enter Tryz.func34,Tryz.ntmps34
 go_wp2_with fail;refine (HC.out).mono ?_;rintro x w2 ⟨rfl,hg⟩;have HG:=Hh (hg.trans (grow_new w2 (.cells #[.int .i64 (p:Nat),.int .i64 (q:Nat),.int .i64 (u:Nat),.int .i64 (v:Nat)] 101)));clear hg HC;go_wp2;go_ret;exact ⟨rfl,HG.out⟩
end Go.Proofs.YteoogioanjkacaaGreatDoor
section
namespace Go.Proofs.YteoogioanjkacaaGreatDoor
open Go.RowKit Go.Lib
def holdB1 (m:Nat) (kid:List Nd):Bool:=rightA kid && (decide ((ws kid).d < 16) && decide (m + (ws kid).i ≤ 1048576))
def holdK:Nat → List (List Nd) → Bool
 | _,[] => true
 | m,k :: ks => holdB1 m k && holdK (m + (ws k).i) ks
def isum:List (List Nd) → Nat
 | [] => 0
 | k :: ks => (ws k).i + isum ks
open Go.RowKit Go.Lib
open Go.RowKit Go.Lib
def RawN (w:World) (B:Nat) (vals:List Value) (ns:List Nd):Prop :=
 vals.length = ns.length * 4 ∧ ∀ i,i < ns.length → ∃ A1 c1 A2 c2 A3 c3,vals[i * 4]? = some (.int .i64 (ns.getD i nd0).kind) ∧ vals[i * 4 + 1]? = some (.slice A1 (ns.getD i nd0).shp.length c1) ∧
  vals[i * 4 + 2]? = some (.slice A2 (ns.getD i nd0).ints.length c2) ∧ vals[i * 4 + 3]? = some (.slice A3 (ns.getD i nd0).decs.length c3) ∧ IsNd w B A1 A2 A3 (ns.getD i nd0)
section
variable {w w' : World} {B B' : Nat} {vals us : List Value} {ns ms : List Nd}
theorem RawN.app (h:RawN w B vals ns) (k:RawN w B us ms):RawN w B (vals ++ us) (ns ++ ms):=by
 obtain ⟨hl,hh⟩:=h;obtain ⟨kl,kh⟩:=k;refine ⟨by rw [List.length_append,List.length_append,hl,kl];omega,fun i hi => ?_⟩
 by_cases h:i < ns.length
 ·have e:(ns ++ ms).getD i nd0 = ns.getD i nd0:=by simp [List.getD,List.getElem?_append_left h]
  rw [e];obtain ⟨A1,c1,A2,c2,A3,c3,h0,h1,h2,h3,h4⟩:=hh i h;refine ⟨A1,c1,A2,c2,A3,c3,?_,?_,?_,?_,h4⟩
  all_goals (rw [List.getElem?_append_left (by omega)];assumption)
 ·rw [List.length_append] at hi
  have e:(ns ++ ms).getD i nd0 = ms.getD (i - ns.length) nd0:=by simp [List.getD,List.getElem?_append_right (Nat.le_of_not_lt h)]
  rw [e];obtain ⟨A1,c1,A2,c2,A3,c3,h0,h1,h2,h3,h4⟩:=kh (i - ns.length) (by omega)
  refine ⟨A1,c1,A2,c2,A3,c3,?_,?_,?_,?_,h4⟩
  ·rw [List.getElem?_append_right (by omega),← h0];congr 1;omega
  ·rw [List.getElem?_append_right (by omega),← h1];congr 1;omega
  ·rw [List.getElem?_append_right (by omega),← h2];congr 1;omega
  ·rw [List.getElem?_append_right (by omega),← h3];congr 1;omega
end
theorem ownsRow_grow {w w':World} {base size n:Nat} {t:TypeId} {v:Value} {vals:List Value} (ho:w.ownsRow base t size v n vals) (hg:Grow w w'):w'.ownsRow base t size v n vals :=
 ⟨ho.1,by
  rcases ho.2 with h0 | ⟨g',cap',cur,hv,hbg,hgg,rest⟩
  ·exact .inl h0
  ·exact .inr ⟨g',cap',cur,hv,hbg,(hg.block g' (heap_lt hgg)).trans hgg,rest⟩⟩
open Go.RowKit Go.Lib
def flatK:List (List Nd) → List Nd
 | [] => []
 | k :: ks => k ++ flatK ks
theorem flatK_app (a b:List (List Nd)):flatK (a ++ b) = flatK a ++ flatK b:=by
 induction a with
 | nil => rfl
 | cons k a ih => simp only [List.cons_append,flatK,ih,List.append_assoc]
theorem flatK_step {ks:List (List Nd)} {k:Nat} (h:k < ks.length):flatK (ks.take (k + 1)) = flatK (ks.take k) ++ ks.getD k []:=by
 rw [List.take_add_one,flatK_app];congr 1;rw [List.getElem?_eq_getElem h];simp [flatK,List.getD,h]
theorem flatK_le (ks:List (List Nd)) (k:Nat):(flatK (ks.take k)).length ≤ (flatK ks).length:=by
 have h:flatK (ks.take k ++ ks.drop k) = flatK ks:=by rw [List.take_append_drop]
 rw [← h,flatK_app,List.length_append];omega
open Go.RowKit Go.Lib
def HeldN (T:Nat → Prop) (w:World) (f:Nat → Value) (i:Nat) (n:Nd):Prop :=
 ∃ A1 c1 A2 c2 A3 c3,f (i * 4) = .int .i64 n.kind ∧ f (i * 4 + 1) = .slice A1 n.shp.length c1 ∧ f (i * 4 + 2) = .slice A2 n.ints.length c2 ∧ f (i * 4 + 3) = .slice A3 n.decs.length c3 ∧ NumsT T w A1 n.shp ∧ NumsT T w A2 n.ints ∧ DecsT T w A3 n.decs
section
variable {T T' : Nat → Prop} {w w' : World} {g : Nat} {ns : List Nd}
theorem HeldN.keep {f f':Nat → Value} {i:Nat} {n:Nd} (h:HeldN T w f i n) (hk:∀ b,T b → T' b ∧ w'.heap[b]? = w.heap[b]?) (hf:∀ j,i * 4 ≤ j → j < i * 4 + 4 → f' j = f j):HeldN T' w' f' i n:=by
 obtain ⟨A1,c1,A2,c2,A3,c3,h0,h1,h2,h3,n1,n2,n3⟩:=h;exact ⟨A1,c1,A2,c2,A3,c3,by rw [hf _ (by omega) (by omega),h0],by rw [hf _ (by omega) (by omega),h1],by rw [hf _ (by omega) (by omega),h2],by rw [hf _ (by omega) (by omega),h3],n1.keep hk,n2.keep hk,n3.keep hk⟩
end
end Go.Proofs.YteoogioanjkacaaGreatDoor
end
namespace Go.Proofs.YteoogioanjkacaaGreatDoor
def kd (l:List Nd):List (List Nd):=if h:l = [] ∨ takeA l = 0 then [] else l.take (takeA l) :: kd (l.drop (takeA l))
 termination_by l.length
 decreasing_by
  have h1:l ≠ []:=fun e => h (.inl e);have h2:takeA l ≠ 0:=fun e => h (.inr e);have h3:0 < l.length:=List.length_pos_iff.2 h1;rw [List.length_drop];omega
theorem kd_nil:kd [] = []:=by rw [kd];simp
theorem kd_step {l:List Nd} (h:l ≠ []) (h0:takeA l ≠ 0):kd l = l.take (takeA l) :: kd (l.drop (takeA l)):=by
 rw [kd];simp [h,h0]
def Kidsy (l:List Nd):Prop:=∃ c t,parK (par 15) c l = some t ∧ t.n = l.length ∧ t.i ≤ 1048576
theorem Kidsy.step {l:List Nd} (h:Kidsy l) (hl:l ≠ []):∃ s,par 15 l = some s ∧ fstD l = some s ∧ takeA l = s.n ∧ 1 ≤ s.n ∧ s.n ≤ l.length ∧ Kidsy (l.drop s.n):=by
 obtain ⟨c,t,hp,hn,hi⟩:=h;have hpos:0 < l.length:=List.length_pos_iff.2 hl
 cases c with
 | zero => rw [parK_zero] at hp;cases hp;simp [st0] at hn;omega
 | succ c =>
  obtain ⟨a,b,ha,hb,rfl⟩:=parK_cons hp;have hlen:=par_len ha;have h16:par 16 l = some a:=par_depth ha 16 (by omega)
  have hai:a.i ≤ 1048576:=by simp only [St.plus] at hi;omega
  have hf:=fst_mk h16 hai;refine ⟨a,ha,hf,by unfold takeA;rw [fs_some hf],hlen.1,hlen.2.1,c,b,hb,?_,?_⟩
  ·rw [List.length_drop];simp only [St.plus] at hn;omega
  ·simp only [St.plus] at hi;omega
theorem right_parts {l:List Nd} {s:St} (h:whlD l = some s):∃ n l' t,l = n :: l' ∧ okB n = true ∧ parK (par 15) (kc n) l' = some t ∧ s = top n t ∧ t.n = l'.length ∧ s.i ≤ 1048576:=by
 obtain ⟨hp,hi,hn⟩:=whl_some h;obtain ⟨e,n,l',t,he,rfl,hok,ht,rfl⟩:=par_parts hp;obtain rfl:e = 15:=by omega
 refine ⟨n,l',t,rfl,hok,ht,rfl,?_,hi⟩;simp only [top,List.length_cons] at hn;omega
theorem right_kidsy {l:List Nd} (h:rightA l = true):l ≠ [] ∧ Kidsy (l.drop 1):=by
 obtain ⟨s,hs⟩:=right_some h;obtain ⟨n,l',t,rfl,hok,ht,rfl,hn,hi⟩:=right_parts hs;refine ⟨by simp,kc n,t,ht,hn,?_⟩
 simp only [top] at hi;omega
def kidsA (l:List Nd):List (List Nd):=if rightA l = true then kd (l.drop 1) else []
open Go.RowKit Go.Lib
theorem run_append_nothing (t ty e:TypeId) (i:TypeInfo) (ht:Tryz.prog.underlying t = some (.slice e)) (hi:Tryz.prog.info? e = some i) (b:Addr) (n c:Nat) (A:Option Addr) (w:World) :
  (Builtin.append_ #[t,t] ty #[.slice (some b) n n,.slice A 0 c]).run Tryz.prog w = .ok (.slice (some b) n n) w:=by
 cases A <;> simp [Builtin.append_,run_underlying ht,sizeOf,typeInfo,hi,Builtin.lenOf,Builtin.firstCells,loadCells,loadCellsFrom,storeCells]
def nest5 (sh:List Int):Nd:=⟨5,sh,[],[]⟩
def nestB (sh:List Int) (ks:List (List Nd)):Bool:=okB (nest5 sh) && (decide (ks.length = itm (nest5 sh)) && holdK (itm (nest5 sh)) ks)
theorem right_ne {k:List Nd} (h:rightA k = true):k ≠ []:=(right_kidsy h).1
theorem boxN_nodes {w:World} {g:Nat} {n:Nd} {A1 A2 A3:Option Addr} {c1 c2 c3:Nat} (h:BoxN w g n.kind A1 n.shp.length c1 A2 n.ints.length c2 A3 n.decs.length c3) (hn:IsNd w w.heap.size A1 A2 A3 n):Nodes w w.heap.size (some ⟨g,0,none⟩) [n]:=fun _ => by
 refine ⟨g,0,rfl,heap_lt h,fun i hi => ?_⟩;obtain rfl:i = 0:=by simpa using hi
 exact ⟨A1,c1,A2,c2,A3,c3,h.at0,h.at1,h.at2,h.at3,hn⟩
open Go.RowKit Go.ChangeShapes Go.WideShapes
def FitI (n:Nd):Prop:=In n.kind ∧ n.shp.length ≤ 9223372036854775807 ∧ n.ints.length ≤ 9223372036854775807 ∧ n.decs.length ≤ 9223372036854775807 ∧ (∀ x ∈ n.decs,In x.1 ∧ In x.2) ∧ ∀ x ∈ n.ints,In x
def IsNodes (w:World) (a:Option Addr) (len cap:Nat) (ns:List Nd):Prop :=
 ns.length = len ∧ len ≤ cap ∧ cap ≤ 9223372036854775807 ∧ Nodes w w.heap.size a ns ∧ (∀ n ∈ ns,FitI n)
section
variable {H : Type} {enc : TypeId × Value → H} {W : World}
end
open Go.RowKit Go.Lib
def okF (n:Nd):Bool:=decide (n.shp.length ≤ 30) && (decide (n.ints.length ≤ 300) && decide (n.decs.length ≤ 300))
def tot:List Nd → Nat
 | [] => 0
 | n :: l => n.ints.length + n.decs.length + tot l
def fewB (ns:List Nd):Bool:=(ns.take 200).all okF && (decide (ns.length ≤ 100) && decide (tot (ns.take 200) ≤ 1000))
theorem tot_app (a b:List Nd):tot (a ++ b) = tot a + tot b:=by
 induction a with
 | nil => simp [tot]
 | cons n a ih => simp only [List.cons_append,tot,ih];omega
theorem take_one {ns:List Nd} {k:Nat} (h:k < ns.length):ns.take (k + 1) = ns.take k ++ [ns.getD k nd0]:=by
 rw [List.take_add_one];congr 1;simp [List.getD,h]
theorem tot_step {ns:List Nd} {k:Nat} (h:k < ns.length):tot (ns.take (k + 1)) = tot (ns.take k) + (ns.getD k nd0).ints.length + (ns.getD k nd0).decs.length:=by
 rw [take_one h,tot_app];simp only [tot];omega
theorem all_step {ns:List Nd} {k:Nat} (h:k < ns.length) (ha:(ns.take k).all okF = true) (hk:okF (ns.getD k nd0) = true):(ns.take (k + 1)).all okF = true:=by
 rw [take_one h,List.all_append,ha,List.all_cons,hk];rfl
theorem few_not {ns:List Nd} {k:Nat} (h:k < ns.length) (h2:k < 200) (hk:okF (ns.getD k nd0) = false):fewB ns = false:=by
 have hm:ns.getD k nd0 ∈ ns.take 200:=by
  rw [show ns.getD k nd0 = ns[k] by simp [List.getD,h]]
  exact List.mem_take_iff_getElem.2 ⟨k,by omega,rfl⟩
 have:(ns.take 200).all okF = false:=by
  rw [Bool.eq_false_iff];intro ha;have:=List.all_eq_true.1 ha _ hm;rw [hk] at this
  cases this
 simp [fewB,this]
theorem few_len {ns:List Nd} (h:fewB ns = true):ns.length ≤ 100:=by
 simp only [fewB,Bool.and_eq_true,decide_eq_true_eq] at h;exact h.2.1
theorem few_fits {w:World} {a:Option Addr} {len cap:Nat} {ns:List Nd} (h:IsNodes w a len cap ns) (hf:fewB ns = true):Fits ns:=fun n hn => by
 have hl:=few_len hf;simp only [fewB,Bool.and_eq_true,decide_eq_true_eq] at hf;rw [List.take_of_length_le (by omega)] at hf
 have h1:=List.all_eq_true.1 hf.1 n hn;simp only [okF,Bool.and_eq_true,decide_eq_true_eq] at h1;have h2:=h.2.2.2.2 n hn;exact ⟨h2.1,by omega,by omega,by omega,h2.2.2.2.2.1⟩
theorem few_any (A:Option Addr) (n c:Nat) (ns:List Nd) (W w:World) (hin:IsNodes W A n c ns) (hg0:Grow W w) :
  Calls Tryz.prog 10 #[.slice A n c] w (Says (fewB ns) w):=by
 obtain ⟨hn,hc,hcm,hns,hf⟩:=hin;have hnm:n ≤ 9223372036854775807:=Nat.le_trans hc hcm;have HN:=Hh hn;have HNS:=Hh (hns.grow hg0);have HF:=Hh hf;clear hn hns hf hc hcm hg0
 go_enter Tryz.func10,Tryz.ntmps10
 go_wp2
 go_loopg [3,4] (200 - 0) (fun g s3 s4 wr => ∃ (k t:Nat),k ≤ n ∧ k ≤ 200 ∧ g = 200 - k ∧ s4 = .int .i64 k ∧ s3 = .int .i64 t ∧ t ≤ 600 * k ∧ Hid (t = tot (ns.take k)) ∧ Hid ((ns.take k).all okF = true) ∧ Hid (Grow w wr))
 case atStart => exact ⟨0,0,Nat.zero_le _,by omega,rfl,rfl,rfl,by omega,Hh rfl,Hh rfl,Hh (Grow.refl _)⟩
 case round =>
  obtain ⟨k,t,hk,hk2,rfl,rfl,rfl,ht,HT,HA,HG⟩:=hrel
  by_cases hlt:k < n
  ·have hlti:((k:Nat):Int) < ((n:Nat):Int):=by omega
   by_cases h200:k < 200
   ·have h200i:((k:Nat):Int) < 200:=by omega
    obtain ⟨b,off,rfl,hb,hat⟩:=HNS.out.grow HG.out (by rw [HN.out];omega)
    obtain ⟨A1,c1,A2,c2,A3,c3,p0,p1,p2,p3,hnd⟩:=hat k (by rw [HN.out];exact hlt)
    have HST:=Hh (tot_step (ns:=ns) (k:=k) (by rw [HN.out];exact hlt))
    have HOK:=Hh (all_step (ns:=ns) (k:=k) (by rw [HN.out];exact hlt) HA.out)
    have HNO:=Hh (few_not (ns:=ns) (k:=k) (by rw [HN.out];exact hlt) h200)
    have hfk:(ns.getD k nd0).shp.length ≤ 9223372036854775807 ∧ (ns.getD k nd0).ints.length ≤ 9223372036854775807 ∧ (ns.getD k nd0).decs.length ≤ 9223372036854775807:=by
     have hm:ns.getD k nd0 ∈ ns:=by
      have hkl:k < ns.length:=by rw [HN.out];exact hlt
      rw [show ns.getD k nd0 = ns[k] by simp [List.getD,hkl]]
      exact List.getElem_mem hkl
     have h:=HF.out _ hm;exact ⟨h.2.1,h.2.2.1,h.2.2.2.1⟩
    obtain ⟨hm1,hm2,hm3⟩:=hfk;clear hat hnd hb p0 HA;have HOF:=Hh (show okF (ns.getD k nd0) = (decide ((ns.getD k nd0).shp.length ≤ 30) && (decide ((ns.getD k nd0).ints.length ≤ 300) && decide ((ns.getD k nd0).decs.length ≤ 300))) from rfl);generalize okF (ns.getD k nd0) = β at HOF HOK HNO;generalize (ns.getD k nd0).shp.length = l1 at *;generalize (ns.getD k nd0).ints.length = l2 at *;generalize (ns.getD k nd0).decs.length = l3 at *
    by_cases h1:l1 ≤ 30
    ·have h1i:¬ (30 < ((l1:Nat):Int)):=by omega
     by_cases h2:l2 ≤ 300
     ·have h2i:¬ (300 < ((l2:Nat):Int)):=by omega
      by_cases h3:l3 ≤ 300
      ·have h3i:¬ (300 < ((l3:Nat):Int)):=by omega
       have HB:Hid (β = true):=Hh (by rw [HOF.out];simp [h1,h2,h3])
       have hw1:IntKind.i64.wrap (((t:Nat):Int) + ((l2:Nat):Int)) = ((t:Nat):Int) + ((l2:Nat):Int):=by rw [IntKind.wrap_i64];omega
       have hw2:IntKind.i64.wrap (((t:Nat):Int) + ((l2:Nat):Int) + ((l3:Nat):Int)) = ((t + l2 + l3:Nat):Int):=by rw [IntKind.wrap_i64];omega
       clear HOF HNO;go_wp2
       go_quiet (fail)
       go_wp2;go_roundg (200 - (k + 1))
       case rel =>
        refine ⟨k + 1,t + l2 + l3,by omega,by omega,rfl,by go_num,by go_num,by omega,Hh ?_,Hh (HOK.out HB.out),Hh (HG.out.drewN _)⟩
        rw [HST.out,← HT.out]
       case measure => omega
      ·have h3i:(300 < ((l3:Nat):Int)):=by omega
       have HB:Hid (β = false):=Hh (by rw [HOF.out];simp [h1,h2,h3])
       clear HOF HOK;go_wp2;go_ret;exact ⟨by rw [HNO.out HB.out];rfl,HG.out⟩
     ·have h2i:(300 < ((l2:Nat):Int)):=by omega
      have HB:Hid (β = false):=Hh (by rw [HOF.out];simp [h2])
      clear HOF HOK;go_wp2;go_ret;exact ⟨by rw [HNO.out HB.out];rfl,HG.out⟩
    ·have h1i:(30 < ((l1:Nat):Int)):=by omega
     have HB:Hid (β = false):=Hh (by rw [HOF.out];simp [h1])
     clear HOF HOK;go_wp2;go_ret;exact ⟨by rw [HNO.out HB.out];rfl,HG.out⟩
   ·obtain rfl:200 = k:=by omega
    have HFE:Hid (fewB ns = false):=Hh (by
     have:¬ ns.length ≤ 100:=by rw [HN.out];omega
     simp [fewB,this])
    have h1i:¬ (((n:Nat):Int) ≤ 100):=by omega
    go_wp2;go_ret;exact ⟨by rw [HFE.out];rfl,HG.out⟩
  ·obtain rfl:n = k:=by omega
   have HTA:=Hh (show ns.take 200 = ns by rw [List.take_of_length_le (by rw [HN.out];exact hk2)])
   have HTB:=Hh (show ns.take n = ns by rw [List.take_of_length_le (by rw [HN.out];exact Nat.le_refl _)])
   have HFE:Hid (fewB ns = (decide (n ≤ 100) && decide (t ≤ 1000))):=Hh (by
    have h1:=HA.out;have h2:=HT.out;rw [HTB.out] at h1 h2;unfold fewB;rw [HTA.out,h1,HN.out,h2]
    rfl)
   by_cases h1:n ≤ 100
   ·have h1i:(((n:Nat):Int) ≤ 100):=by omega
    by_cases h2:t ≤ 1000
    ·have h2i:(((t:Nat):Int) ≤ 1000):=by omega
     have HB:Hid (fewB ns = true):=Hh (by rw [HFE.out];simp [h1,h2])
     go_wp2;go_ret;exact ⟨by rw [HB.out];rfl,HG.out⟩
    ·have h2i:¬ (((t:Nat):Int) ≤ 1000):=by omega
     have HB:Hid (fewB ns = false):=Hh (by rw [HFE.out];simp [h2])
     go_wp2;go_ret;exact ⟨by rw [HB.out];rfl,HG.out⟩
   ·have h1i:¬ (((n:Nat):Int) ≤ 100):=by omega
    have HB:Hid (fewB ns = false):=Hh (by rw [HFE.out];simp [h1])
    go_wp2;go_ret;exact ⟨by rw [HB.out];rfl,HG.out⟩
end Go.Proofs.YteoogioanjkacaaGreatDoor
