/-
  Contracts, joined: RNumbers, TightD, TightE, RNest, RForm, RMakes. Nothing is claimed here by itself.
-/
import Derived.Test.YteoogioanjkacaaGreatDoorU01
import Derived.Test.YteoogioanjkacaaGreatDoorU04
import Derived.Test.YteoogioanjkacaaGreatDoorU05
import Derived.Test.YteoogioanjkacaaGreatDoorU06
import Derived.Test.YteoogioanjkacaaGreatDoorU10
import Derived.Test.YteoogioanjkacaaGreatDoorU11
import Derived.Deep.CutBlock
import Derived.Deep.DeepCutAuto
import Derived.Deep.RegionLaw
set_option maxRecDepth 100000
set_option maxHeartbeats 12800000
set_option linter.unusedSimpArgs false
set_option linter.unusedVariables false
namespace Go.Proofs.YteoogioanjkacaaGreatDoor
open Go.RowKit Go.Lib
def kst (K:Int) (x:Int × Int):Int:=if whlB x = false then 4 else if K = 1 ∧ bitB (whlV x) = false then 2 else K
def kfirst (n:Nat):Int:=if n = 0 then 2 else 1
def kall (n:Nat) (l:List (Int × Int)):Int:=l.foldl kst (kfirst n)
theorem kall_step {n:Nat} {l:List (Int × Int)} {k:Nat} (h:k < l.length):kall n (l.take (k + 1)) = kst (kall n (l.take k)) (l.getD k (0,0)):=by
 unfold kall;rw [List.take_add_one,List.foldl_append];simp [List.getD,h]
theorem kst_run:∀ {l:List (Int × Int)} {K:Int},(K = 1 ∨ K = 2 ∨ K = 4) → l.foldl kst K = if l.all whlB = true then (if K = 1 ∧ (l.map whlV).all bitB = false then 2 else K) else 4
 | [],K,h => by simp
 | x :: l,K,h => by
  rw [List.foldl_cons];have ih:=fun K h => kst_run (l:=l) (K:=K) h
  cases hx:whlB x with
  | false =>
   have e:kst K x = 4:=by simp [kst,hx]
   rw [e,ih 4 (by simp),List.all_cons,hx,Bool.false_and]
   simp
  | true =>
   by_cases hK:K = 1
   ·subst hK
    cases hb:bitB (whlV x) with
    | false =>
     have e:kst 1 x = 2:=by simp [kst,hx,hb]
     rw [e,ih 2 (by simp),List.all_cons,hx,Bool.true_and]
     simp [hb]
    | true =>
     have e:kst 1 x = 1:=by simp [kst,hx,hb]
     rw [e,ih 1 (by simp),List.all_cons,hx,Bool.true_and,List.map_cons,List.all_cons,hb,Bool.true_and]
   ·have e:kst K x = K:=by simp [kst,hx,hK]
    rw [e,ih K h,List.all_cons,hx,Bool.true_and];have hn:¬ (K = 1 ∧ (l.map whlV).all bitB = false):=fun h => hK h.1;have hn2:¬ (K = 1 ∧ ((x :: l).map whlV).all bitB = false):=fun h => hK h.1;rw [if_neg hn,if_neg hn2]
theorem kall_is (s:List Int) (l:List (Int × Int)):(leastN s l).kind = kall l.length l ∧ (kall l.length l = 4 → leastN s l = ⟨4,s,[],l⟩) ∧ (kall l.length l ≠ 4 → leastN s l = ⟨kall l.length l,s,l.map whlV,[]⟩):=by
 have h:=kst_run (l:=l) (K:=kfirst l.length) (by unfold kfirst;split <;> simp)
 unfold kall;rw [h]
 cases ha:l.all whlB with
 | false => simp [leastN,ha]
 | true =>
  cases l with
  | nil => simp [leastN,kfirst,kindI]
  | cons x l =>
   have e:kfirst (x :: l).length = 1:=by simp [kfirst]
   cases hb:((x :: l).map whlV).all bitB with
   | false => simp only [leastN,ha,e,kindI,hb];simp
   | true => simp only [leastN,ha,e,kindI,hb];simp
theorem ownI_lit00 {B:Nat} (w:World) (hB:B ≤ w.heap.size):OwnI B (.slice (some ⟨w.heap.size,0,none⟩) 0 0) [] (w.alloc (.cells #[] 3)) :=
 ⟨rfl,.inr ⟨w.heap.size,0,#[],rfl,hB,heap_alloc_new w _,Nat.le_refl _,Nat.zero_le _,rfl,rfl⟩⟩
theorem BoxN.kindS {w:World} {b:Nat} {k:Int} {A1 A2 A3:Option Addr} {l1 c1 l2 c2 l3 c3:Nat} (h:BoxN w b k A1 l1 c1 A2 l2 c2 A3 l3 c3) (k':Int):BoxN (w.setCell ⟨b,0,none⟩ (.int .i64 k')) b k' A1 l1 c1 A2 l2 c2 A3 l3 c3 :=
 heap_setCell_same w b 0 _ _ (.int .i64 k') h
theorem BoxN.intsS {w:World} {b:Nat} {k:Int} {A1 A2 A3:Option Addr} {l1 c1 l2 c2 l3 c3:Nat} (h:BoxN w b k A1 l1 c1 A2 l2 c2 A3 l3 c3) (A':Option Addr) (l' c':Nat):BoxN (w.setCell ⟨b,2,none⟩ (.slice A' l' c')) b k A1 l1 c1 A' l' c' A3 l3 c3 :=
 heap_setCell_same w b 2 _ _ (.slice A' l' c') h
theorem BoxN.decsS {w:World} {b:Nat} {k:Int} {A1 A2 A3:Option Addr} {l1 c1 l2 c2 l3 c3:Nat} (h:BoxN w b k A1 l1 c1 A2 l2 c2 A3 l3 c3) (A':Option Addr) (l' c':Nat):BoxN (w.setCell ⟨b,3,none⟩ (.slice A' l' c')) b k A1 l1 c1 A2 l2 c2 A' l' c' :=
 heap_setCell_same w b 3 _ _ (.slice A' l' c') h
theorem below_put {B b:Nat} {w w':World} (h:Below B w w') (hb:B ≤ b) (j:Nat) (v:Value):Below B w (w'.setCell ⟨b,j,none⟩ v):=Below.setCell h hb v
theorem all_dec {l:List (Int × Int)} {k:Nat} (h:k < l.length):(l.take (k + 1)).all decB = ((l.take k).all decB && decB (l.getD k (0,0))):=by
 rw [List.take_add_one,List.all_append];simp [List.getD,h]
theorem all_dec_no {l:List (Int × Int)} {k:Nat} (h:k < l.length) (hx:decB (l.getD k (0,0)) = false):l.all decB = false:=by
 rw [show l.getD k (0,0) = l[k] by simp [List.getD,h]] at hx
 rw [List.all_eq_false];exact ⟨l[k],List.getElem_mem h,by rw [hx];simp⟩
theorem whl_step {l:List (Int × Int)} {k:Nat} (h:k < l.length):(l.take (k + 1)).map whlV = (l.take k).map whlV ++ [whlV (l.getD k (0,0))]:=by
 rw [List.take_add_one,List.map_append];congr 1;simp [List.getD,h]
theorem nums_lit1 (w:World) (v:Int):Nums .i64 (w.alloc (.cells #[.int .i64 v] 3)) (w.alloc (.cells #[.int .i64 v] 3)).heap.size (some ⟨w.heap.size,0,none⟩) [v] :=
 nums_cells (xs:=[v]) (heap_alloc_new w _)
theorem BoxN.same {w w':World} {b:Nat} {k:Int} {A1 A2 A3:Option Addr} {l1 c1 l2 c2 l3 c3:Nat} (h:BoxN w b k A1 l1 c1 A2 l2 c2 A3 l3 c3) (e:w'.heap[b]? = w.heap[b]?):BoxN w' b k A1 l1 c1 A2 l2 c2 A3 l3 c3:=e.trans h
theorem own_put {w:World} {b:Nat} {v:Value} {xs:List Int} (h:OwnI (b + 1) v xs w) (j:Nat) (u:Value):OwnI (b + 1) v xs (w.setCell ⟨b,j,none⟩ u):=own_keep h fun q hq => heap_setCell_other w ⟨b,j,none⟩ q u (show q ≠ b by omega)
theorem own_putD {w:World} {b:Nat} {v:Value} {xs:List (Int × Int)} (h:OwnD (b + 1) v xs w) (j:Nat) (u:Value):OwnD (b + 1) v xs (w.setCell ⟨b,j,none⟩ u):=own_keep h fun q hq => heap_setCell_other w ⟨b,j,none⟩ q u (show q ≠ b by omega)
theorem dec_step {l:List (Int × Int)} {k:Nat} (h:k < l.length):l.take (k + 1) = l.take k ++ [l.getD k (0,0)]:=by
 rw [List.take_add_one];simp [List.getD,h]
theorem step_more_decs {ops:Array Oper} {o:Oper} {a:Act} {w:World} {K:Act → World → Prop} {Q:Exit → Act → World → Prop} {E:Prop} (hg:o.guard = none) (s x:Operand)
  (ho:o.op = .call { callee:=.builtin .append,args:=#[s,x],argTypes:=#[32,32] }) (B:Nat) (v:Value) (xs:List (Int × Int)) (A:Option Addr) (m c:Nat) (ys:List (Int × Int))
  (hs:a.eval s = v) (hown:OwnD B v xs w) (hx:a.eval x = .slice A m c) (hm:ys.length = m) (hys:Decs w w.heap.size A ys) (hb:xs.length + m ≤ 1000000000) (hB:B ≤ w.heap.size)
  (h:∀ v' w',Hid (OwnD B v' (xs ++ ys) w') → Hid (Below B w w') → Hid (Apart v v' w w') → K (a.put o.dst v') w') :
  if Region.wanted o (yielded ops a.tmps) = true then Oper.wp Tryz.prog o a w K Q else E:=by
 rw [if_pos (by simp [Region.wanted,hg])]
 exact wp_more_decs s x ho B v xs A m c ys hs hown hx hm hys hb hB h
-- WALK
theorem rnumbers_any (A1:Option Addr) (n1 c1:Nat) (s:List Int) (A:Option Addr) (n c:Nat) (l:List (Int × Int)) (w:World) (hs:s.length = n1) (hs1:n1 ≤ 1100000) (hsh:Nums .i64 w w.heap.size A1 s)
  (hn:l.length = n) (hm:n ≤ 1100000) (hi:∀ x ∈ l,In x.1 ∧ In x.2) (hr:Decs w w.heap.size A l) :
  Calls Tryz.prog 99 #[.slice A1 n1 c1,.slice A n c] w (OneP (fun b => w.heap.size ≤ b) (numO s l) w):=by
 obtain ⟨rb,hrb⟩:∃ rb,w.heap.size = rb:=⟨_,rfl⟩;have hbx:=boxN_new w 0 none 0 0 none 0 0 none 0 0;rw [hrb] at hbx;have hg1:=grow_new w (.cells #[.int .i64 0,.slice none 0 0,.slice none 0 0,.slice none 0 0] 34);have HC:=Hh (fun W h => rcount_any A1 n1 c1 s W hs (by omega) h)
 have HO:Hid (numO s l = if rightB s = true ∧ cnt s = n ∧ l.all decB = true then some (leastN s l) else none):=Hh (by unfold numO;rw [hn])
 have HKL:=Hh (kall_is s l);rw [hn] at HKL;have HS0:=Hh (hsh.grow hg1);have HD0:=Hh (hr.grow hg1);have HDR:=Hh hr;have HRB:=Hh hrb;have HBX:=Hh hbx;have HG1:=Hh hg1;have HSL:=Hh hs;have HLN:=Hh hn;have HIN:=Hh hi;have hcb:=cnt_le1 s;clear hbx hg1 hs hsh hn hi hr;generalize rightB s = β at *;generalize cnt s = cs at *
 by_cases hnc:n = cs
 rotate_left
 ·have hne:(((cs:Nat):Int) != ((n:Nat):Int)) = true:=by simp;omega
  have HN:Hid (numO s l = none):=Hh (by rw [HO.out,if_neg];rintro ⟨_,h,_⟩;exact hnc h.symm)
  cases β with
  | false =>
   go_enter Tryz.func99,Tryz.ntmps99
   go_wp2_with fail;refine (HC.out _ HS0.out).mono ?_;rintro e w2 ⟨rfl,rfl⟩;go_wp2;have hb:=boxN_new w 0 none 0 0 none 0 0 none 0 0;rw [HRB.out] at hb;refine bodyPost_ret (v:=.tuple #[.agg #[.int .i64 0,.slice none 0 0,.slice none 0 0,.slice none 0 0],.bool false]) (by simp [results,Tryz.results99,go_sem,hb.at0,hb.at1,hb.at2,hb.at3]) rfl ?_
   exact OneP.no HN.out HG1.out
  | true =>
   go_enter Tryz.func99,Tryz.ntmps99
   go_wp2_with fail;refine (HC.out _ HS0.out).mono ?_;rintro e w2 ⟨rfl,rfl⟩;go_wp2;have hb:=boxN_new w 0 none 0 0 none 0 0 none 0 0;rw [HRB.out] at hb;refine bodyPost_ret (v:=.tuple #[.agg #[.int .i64 0,.slice none 0 0,.slice none 0 0,.slice none 0 0],.bool false]) (by simp [results,Tryz.results99,go_sem,hb.at0,hb.at1,hb.at2,hb.at3]) rfl ?_
   exact OneP.no HN.out HG1.out
 ·subst hnc
  have hne:(((n:Nat):Int) != ((n:Nat):Int)) = false:=by simp
  cases β with
  | false =>
   have HN:Hid (numO s l = none):=Hh (by rw [HO.out,if_neg];rintro ⟨h,_,_⟩;cases h)
   go_enter Tryz.func99,Tryz.ntmps99
   go_wp2_with fail;refine (HC.out _ HS0.out).mono ?_;rintro e w2 ⟨rfl,rfl⟩;go_wp2;have hb:=boxN_new w 0 none 0 0 none 0 0 none 0 0;rw [HRB.out] at hb;refine bodyPost_ret (v:=.tuple #[.agg #[.int .i64 0,.slice none 0 0,.slice none 0 0,.slice none 0 0],.bool false]) (by simp [results,Tryz.results99,go_sem,hb.at0,hb.at1,hb.at2,hb.at3]) rfl ?_
   exact OneP.no HN.out HG1.out
  | true =>
   go_enter Tryz.func99,Tryz.ntmps99
   go_wp2_with fail;refine (HC.out _ HS0.out).mono ?_;rintro e w2 ⟨rfl,rfl⟩;go_upto_region 4 with fail
   obtain ⟨w1,hw1⟩:∃ w1,w1 = w.alloc (.cells #[.int .i64 0,.slice none 0 0,.slice none 0 0,.slice none 0 0] 34):=⟨_,rfl⟩;rw [← hw1] at HBX HG1 HS0 HD0 ⊢;clear hw1;have hg2:=grow_new w1 (.cells #[] 3);have HE:=Hh (ownI_lit00 (B:=rb + 1) w1 HBX.out.lt);have HS2:=Hh (HS0.out.grow hg2);have HZ2:Hid (rb + 1 ≤ (w1.alloc (.cells #[] 3)).heap.size):=Hh (Nat.le_trans HBX.out.lt hg2.size);have HG2:=Hh hg2;clear hg2;go_upto_region 5 with (at_builtin;refine wpList_more_ints rfl _ _ rfl (rb + 1) (.slice (some ⟨w1.heap.size,0,none⟩) 0 0) [] A1 n1 c1 s rfl HE.out rfl HSL.out HS2.out (by simp;omega) HZ2.out ?_;intro v3 w3 HO3 HB3 HA3;obtain ⟨As,cA,e3,hcA,hNA⟩:=HO3.out.new;rw [List.nil_append,HSL.out] at e3;subst e3)
   have hob:=boxN_new w3 1 As n1 cA none 0 0 none 0 0;have hga:=grow_new w3 (.cells #[.int .i64 1,.slice As n1 cA,.slice none 0 0,.slice none 0 0] 34);obtain ⟨w4,hw4⟩:∃ w4,w4 = w3.alloc (.cells #[.int .i64 1,.slice As n1 cA,.slice none 0 0,.slice none 0 0] 34):=⟨_,rfl⟩;rw [← hw4] at hob hga ⊢;obtain ⟨ob,hbo⟩:∃ ob,w3.heap.size = ob:=⟨_,rfl⟩;have hrbo:rb < ob:=by rw [← hbo];have h1:=HB3.out.size;have h2:=HZ2.out;omega
   have HBR:Hid (BoxN w4 rb 0 none 0 0 none 0 0 none 0 0):=Hh ((hga.block rb (by rw [hbo];exact hrbo)).trans ((HB3.out.block rb (Nat.lt_succ_self rb)).trans (HBX.out.grow HG2.out)))
   have HNS:Hid (NumsT (fun b => rb < b ∧ b < ob) w4 As s):=Hh (hNA.keep fun b hb => ⟨⟨hb.1,by rw [← hbo];exact hb.2⟩,hga.block b hb.2⟩)
   have HGW:Hid (Below rb w w4):=Hh (by
    have h1:=HG1.out.trans HG2.out;unfold Grow at h1;rw [HRB.out] at h1
    exact Below.trans (Below.trans h1 (Below.mono HB3.out (Nat.le_succ rb))) (Below.mono hga (by rw [hbo];omega)))
   have HR0:Hid (Decs w rb A l):=Hh (by have h:=HDR.out;rw [HRB.out] at h;exact h)
   rw [hbo] at hob ⊢;have HBO:=Hh hob;clear hob hga hw4 hbo hNA HO3 HB3 HA3 HZ2 HS2 HE HG2 HBX HG1 HS0 HD0 HDR hcA
   by_cases hn0:n = 0
   ·subst hn0
    have HL0:Hid (l = []):=Hh (List.eq_nil_of_length_eq_zero HLN.out);have HN:Hid (numO s l = some ⟨2,s,[],[]⟩):=Hh (by rw [HO.out,HL0.out];rfl)
    have f0:=HBO.out.froz 0;have d0:=HBO.out.at0;go_wp2;have HOX:=Hh (HBO.out.kindS 2);have HGL:Hid (Below ob w4 (w4.setCell ⟨ob,0,none⟩ (.int .i64 2))):=Hh (below_put (Below.refl ob w4) (Nat.le_refl ob) 0 (.int .i64 2));clear f0 d0;generalize w4.setCell ⟨ob,0,none⟩ (.int .i64 2) = w5 at *
    go_loopg [9] 0 (fun g s9 wr => s9 = .int .i64 0 ∧ g = 0 ∧ w5 = wr)
    case atStart => exact ⟨rfl,rfl,rfl⟩
    case round =>
     obtain ⟨rfl,rfl,rfl⟩:=hrel;go_wp2
     go_loopg [13] 0 (fun g s13 wr => s13 = .int .i64 0 ∧ g = 0 ∧ w5 = wr)
     case atStart => exact ⟨rfl,rfl,rfl⟩
     case round =>
      obtain ⟨rfl,rfl,rfl⟩:=hrel;have HBQ:Hid (BoxN w5 rb 0 none 0 0 none 0 0 none 0 0):=Hh ((HGL.out.block rb hrbo).trans HBR.out);have HGQ:Hid (Grow w w5):=Hh (show Below w.heap.size w w5 by rw [HRB.out];exact Below.trans HGW.out (Below.mono HGL.out (Nat.le_of_lt hrbo)))
      have hox:=HOX.out;have e0:=hox.at0;have e1:=hox.at1;have e2:=hox.at2;have e3:=hox.at3;clear hox;have hbx:=HBQ.out;have f0:=hbx.froz 0;have f1:=hbx.froz 1;have f2:=hbx.froz 2;have f3:=hbx.froz 3;have d0:=hbx.at0;have d1:=hbx.at1;have d2:=hbx.at2;have d3:=hbx.at3;clear hbx;go_wp2;have hle:w.heap.size ≤ rb:=by rw [HRB.out];exact Nat.le_refl _
      have hb:=HBQ.out.store 2 As none none n1 cA 0 0 0 0;have hg:=(((HGQ.out.put hle 0 (.int .i64 2)).put hle 1 (.slice As n1 cA)).put hle 2 (.slice none 0 0)).put hle 3 (.slice none 0 0);have hkp:∀ b,rb < b → b < w5.heap.size → ((((w5.setCell ⟨rb,0,none⟩ (.int .i64 2)).setCell ⟨rb,1,none⟩ (.slice As n1 cA)).setCell ⟨rb,2,none⟩ (.slice none 0 0)).setCell ⟨rb,3,none⟩ (.slice none 0 0)).heap[b]? = w5.heap[b]?:=fun b h1 h2 => (kept_store (w:=w5) (b:=rb) _ _ _ _).block b h2 (by show ¬ b = rb;omega)
      refine bodyPost_ret (v:=.tuple #[.agg #[.int .i64 2,.slice As n1 cA,.slice none 0 0,.slice none 0 0],.bool true]) (by simp [results,Tryz.results99,go_sem,hb.at0,hb.at1,hb.at2,hb.at3]) rfl ?_
      have hns:NumsT (fun b => rb < b ∧ b < ob) w5 As s:=HNS.out.keep fun b hb => ⟨hb,HGL.out.block b hb.2⟩;exact OneP.yes HN.out hg ⟨As,cA,none,0,none,0,by rw [← HSL.out];rfl,hns.keep fun b hb2 => ⟨by first | omega | (rw [HRB.out];omega),hkp b hb2.1 (Nat.lt_trans hb2.2 HOX.out.lt)⟩,NumsT.nil_,DecsT.nil_⟩
   have hnz:((n:Int) == 0) = false:=by simp;omega
   go_wp2
   go_loopg [9] n (fun g s9 wr => ∃ (k:Nat) (K:Int),k ≤ n ∧ g = n - k ∧ s9 = .int .i64 k ∧ Hid (K = kall n (l.take k)) ∧ (K = 1 ∨ K = 2 ∨ K = 4) ∧ Hid ((l.take k).all decB = true) ∧ Hid (BoxN wr ob K As n1 cA none 0 0 none 0 0) ∧ Hid (Below ob w4 wr))
   case atStart => exact ⟨0,1,Nat.zero_le _,rfl,rfl,Hh (by simp [kall,kfirst,hn0]),by simp,Hh rfl,HBO,Hh (Below.refl _ _)⟩
   case round =>
    obtain ⟨k,K,hk,rfl,rfl,HKK,hK,HDB,HBJ,HGL⟩:=hrel;have HOB:=Hh (Nat.le_of_lt HBJ.out.lt)
    by_cases hlt:k < n
    ·have hlti:((k:Nat):Int) < ((n:Nat):Int):=by omega
     have hkl:k < l.length:=by rw [HLN.out];exact hlt
     obtain ⟨b,off,rfl,hb,hcl⟩:=(HR0.out.below (Below.trans HGW.out (Below.mono HGL.out (Nat.le_of_lt hrbo)))) (by omega)
     obtain ⟨hc1,hc2⟩:=hcl k hkl;have hin:=in_at HIN.out k;have HKS:=Hh (kall_step (n:=n) hkl);have HAS:=Hh (all_dec hkl);have HAF:=Hh (fun h => all_dec_no hkl h);clear hcl hkl hb;generalize l.getD k (0,0) = x at *;obtain ⟨x1,x2⟩:=x;dsimp only at hc1 hc2 hin;have HC1:=Hh (fun W => rright_any x1 x2 W hin.1 hin.2);have HC2:=Hh (fun W => rwhole_any x1 x2 W hin.1 hin.2);have hdd:decB (x1,x2) = rightD x1 x2:=rfl;rw [hdd] at HAS HAF;clear hdd hin;obtain ⟨dx,hdx⟩:∃ dx,rightD x1 x2 = dx:=⟨_,rfl⟩;rw [hdx] at HC1 HAS HAF;clear hdx
     cases dx with
     | false =>
      have HNO:Hid (l.all decB = false):=Hh (HAF.out rfl);have HN:Hid (numO s l = none):=Hh (by rw [HO.out,if_neg];rintro ⟨_,_,h⟩;rw [HNO.out] at h;cases h)
      go_wp2_with fail;refine (HC1.out _).mono ?_;rintro e w6 ⟨rfl,hg6⟩;have HL6:=Hh (Below.trans HGL.out (Below.mono hg6 HOB.out));have HBQ:Hid (BoxN w6 rb 0 none 0 0 none 0 0 none 0 0):=Hh ((HL6.out.block rb hrbo).trans HBR.out);have HGQ:Hid (Grow w w6):=Hh (show Below w.heap.size w w6 by rw [HRB.out];exact Below.trans HGW.out (Below.mono HL6.out (Nat.le_of_lt hrbo)))
      clear hg6 HC1 HC2 hc1 hc2 HBJ HGL;have hbx:=HBQ.out;have f0:=hbx.froz 0;have f1:=hbx.froz 1;have f2:=hbx.froz 2;have f3:=hbx.froz 3;have d0:=hbx.at0;have d1:=hbx.at1;have d2:=hbx.at2;have d3:=hbx.at3;clear hbx;go_wp2;have hle:w.heap.size ≤ rb:=by rw [HRB.out];exact Nat.le_refl _
      have hb:=HBQ.out.store 0 none none none 0 0 0 0 0 0;have hg:=(((HGQ.out.put hle 0 (.int .i64 0)).put hle 1 (.slice none 0 0)).put hle 2 (.slice none 0 0)).put hle 3 (.slice none 0 0);refine bodyPost_ret (v:=.tuple #[.agg #[.int .i64 0,.slice none 0 0,.slice none 0 0,.slice none 0 0],.bool false]) (by simp [results,Tryz.results99,go_sem,hb.at0,hb.at1,hb.at2,hb.at3]) rfl ?_
      exact OneP.no HN.out hg
     | true =>
      have HDT:Hid (true = true):=Hh rfl;have hwb:whlB (x1,x2) = (wholeD x1 x2).2:=rfl;have hwv:whlV (x1,x2) = (wholeD x1 x2).1:=rfl;have HKF:Hid (kst K (x1,x2) = if (wholeD x1 x2).2 = false then 4 else if K = 1 ∧ bitB (wholeD x1 x2).1 = false then 2 else K):=Hh rfl
      clear hwb hwv HAF;generalize wholeD x1 x2 = vw at *;obtain ⟨v,β⟩:=vw;dsimp only at HC2 HKF
      cases β with
      | false =>
       have HKV:Hid (kst K (x1,x2) = 4):=Hh (by rw [HKF.out,if_pos rfl])
       clear HKF;go_wp2_with fail;refine (HC1.out _).mono ?_;rintro e w6 ⟨rfl,hg6⟩;have HB6:=Hh (HBJ.out.grow hg6);have HL6:=Hh (Below.trans HGL.out (Below.mono hg6 HOB.out));have p0':=(hg6.cell (p:=⟨b,off + k * 2,none⟩) (block_lt_of_cell hc1)).trans hc1;have p1':=(hg6.cell (p:=⟨b,off + k * 2 + 1,none⟩) (block_lt_of_cell hc2)).trans hc2;clear hg6 HC1 HBJ HGL;go_wp2_with fail;refine (HC2.out _).mono ?_;rintro e w7 ⟨rfl,hg7⟩;have HOB7:=Hh (Nat.le_of_lt HB6.out.lt);have HB7:=Hh (HB6.out.grow hg7);have HL7:=Hh (Below.trans HL6.out (Below.mono hg7 HOB7.out));have f0:=HB7.out.froz 0;have d0:=HB7.out.at0;clear hg7 HC2 HB6 HL6 p0' p1' hc1 hc2;go_wp2;go_roundg (n - (k + 1))
       case rel => exact ⟨k + 1,4,by omega,rfl,by go_num,Hh (by rw [HKS.out,← HKK.out];exact HKV.out.symm),by simp,Hh (by rw [HAS.out,HDB.out];rfl),Hh (HB7.out.kindS 4),Hh (below_put HL7.out (Nat.le_refl ob) 0 (.int .i64 4))⟩
       case measure => omega
      | true =>
       have HKG:Hid (kst K (x1,x2) = if K = 1 ∧ bitB v = false then 2 else K):=Hh (by rw [HKF.out,if_neg (by simp)])
       clear HKF
       rcases hK with rfl | rfl | rfl
       ·by_cases h0:v = 0
        ·subst h0
         have HKV:Hid (kst 1 (x1,x2) = 1):=Hh (by rw [HKG.out];rfl)
         clear HKG;go_wp2_with fail;refine (HC1.out _).mono ?_;rintro e w6 ⟨rfl,hg6⟩;have HB6:=Hh (HBJ.out.grow hg6);have HL6:=Hh (Below.trans HGL.out (Below.mono hg6 HOB.out));have p0':=(hg6.cell (p:=⟨b,off + k * 2,none⟩) (block_lt_of_cell hc1)).trans hc1;have p1':=(hg6.cell (p:=⟨b,off + k * 2 + 1,none⟩) (block_lt_of_cell hc2)).trans hc2;clear hg6 HC1 HBJ HGL;go_wp2_with fail;refine (HC2.out _).mono ?_;rintro e w7 ⟨rfl,hg7⟩;have HOB7:=Hh (Nat.le_of_lt HB6.out.lt);have HB7:=Hh (HB6.out.grow hg7);have HL7:=Hh (Below.trans HL6.out (Below.mono hg7 HOB7.out));have f0:=HB7.out.froz 0;have d0:=HB7.out.at0;clear hg7 HC2 HB6 HL6 p0' p1' hc1 hc2;go_wp2;go_roundg (n - (k + 1))
         case rel => exact ⟨k + 1,1,by omega,rfl,by go_num,Hh (by rw [HKS.out,← HKK.out];exact HKV.out.symm),by simp,Hh (by rw [HAS.out,HDB.out];rfl),HB7,HL7⟩
         case measure => omega
        ·by_cases h1:v = 1
         ·subst h1
          have HKV:Hid (kst 1 (x1,x2) = 1):=Hh (by rw [HKG.out];rfl)
          clear HKG h0;go_wp2_with fail;refine (HC1.out _).mono ?_;rintro e w6 ⟨rfl,hg6⟩;have HB6:=Hh (HBJ.out.grow hg6);have HL6:=Hh (Below.trans HGL.out (Below.mono hg6 HOB.out));have p0':=(hg6.cell (p:=⟨b,off + k * 2,none⟩) (block_lt_of_cell hc1)).trans hc1;have p1':=(hg6.cell (p:=⟨b,off + k * 2 + 1,none⟩) (block_lt_of_cell hc2)).trans hc2;clear hg6 HC1 HBJ HGL;go_wp2_with fail;refine (HC2.out _).mono ?_;rintro e w7 ⟨rfl,hg7⟩;have HOB7:=Hh (Nat.le_of_lt HB6.out.lt);have HB7:=Hh (HB6.out.grow hg7);have HL7:=Hh (Below.trans HL6.out (Below.mono hg7 HOB7.out));have f0:=HB7.out.froz 0;have d0:=HB7.out.at0;clear hg7 HC2 HB6 HL6 p0' p1' hc1 hc2;go_wp2;go_roundg (n - (k + 1))
          case rel => exact ⟨k + 1,1,by omega,rfl,by go_num,Hh (by rw [HKS.out,← HKK.out];exact HKV.out.symm),by simp,Hh (by rw [HAS.out,HDB.out];rfl),HB7,HL7⟩
          case measure => omega
         ·have h0':(v != 0) = true:=by simpa using h0
          have h1':(v != 1) = true:=by simpa using h1
          have HKV:Hid (kst 1 (x1,x2) = 2):=Hh (by rw [HKG.out,if_pos ⟨rfl,by simp [bitB,h0,h1]⟩])
          clear HKG h0 h1;go_wp2_with fail;refine (HC1.out _).mono ?_;rintro e w6 ⟨rfl,hg6⟩;have HB6:=Hh (HBJ.out.grow hg6);have HL6:=Hh (Below.trans HGL.out (Below.mono hg6 HOB.out));have p0':=(hg6.cell (p:=⟨b,off + k * 2,none⟩) (block_lt_of_cell hc1)).trans hc1;have p1':=(hg6.cell (p:=⟨b,off + k * 2 + 1,none⟩) (block_lt_of_cell hc2)).trans hc2;clear hg6 HC1 HBJ HGL;go_wp2_with fail;refine (HC2.out _).mono ?_;rintro e w7 ⟨rfl,hg7⟩;have HOB7:=Hh (Nat.le_of_lt HB6.out.lt);have HB7:=Hh (HB6.out.grow hg7);have HL7:=Hh (Below.trans HL6.out (Below.mono hg7 HOB7.out));have f0:=HB7.out.froz 0;have d0:=HB7.out.at0;clear hg7 HC2 HB6 HL6 p0' p1' hc1 hc2;go_wp2;go_roundg (n - (k + 1))
          case rel => exact ⟨k + 1,2,by omega,rfl,by go_num,Hh (by rw [HKS.out,← HKK.out];exact HKV.out.symm),by simp,Hh (by rw [HAS.out,HDB.out];rfl),Hh (HB7.out.kindS 2),Hh (below_put HL7.out (Nat.le_refl ob) 0 (.int .i64 2))⟩
          case measure => omega
       ·have HKV:Hid (kst 2 (x1,x2) = 2):=Hh (by rw [HKG.out,if_neg (by simp)])
        clear HKG;go_wp2_with fail;refine (HC1.out _).mono ?_;rintro e w6 ⟨rfl,hg6⟩;have HB6:=Hh (HBJ.out.grow hg6);have HL6:=Hh (Below.trans HGL.out (Below.mono hg6 HOB.out));have p0':=(hg6.cell (p:=⟨b,off + k * 2,none⟩) (block_lt_of_cell hc1)).trans hc1;have p1':=(hg6.cell (p:=⟨b,off + k * 2 + 1,none⟩) (block_lt_of_cell hc2)).trans hc2;clear hg6 HC1 HBJ HGL;go_wp2_with fail;refine (HC2.out _).mono ?_;rintro e w7 ⟨rfl,hg7⟩;have HOB7:=Hh (Nat.le_of_lt HB6.out.lt);have HB7:=Hh (HB6.out.grow hg7);have HL7:=Hh (Below.trans HL6.out (Below.mono hg7 HOB7.out));have f0:=HB7.out.froz 0;have d0:=HB7.out.at0;clear hg7 HC2 HB6 HL6 p0' p1' hc1 hc2;go_wp2;go_roundg (n - (k + 1))
        case rel => exact ⟨k + 1,2,by omega,rfl,by go_num,Hh (by rw [HKS.out,← HKK.out];exact HKV.out.symm),by simp,Hh (by rw [HAS.out,HDB.out];rfl),HB7,HL7⟩
        case measure => omega
       ·have HKV:Hid (kst 4 (x1,x2) = 4):=Hh (by rw [HKG.out,if_neg (by simp)])
        clear HKG;go_wp2_with fail;refine (HC1.out _).mono ?_;rintro e w6 ⟨rfl,hg6⟩;have HB6:=Hh (HBJ.out.grow hg6);have HL6:=Hh (Below.trans HGL.out (Below.mono hg6 HOB.out));have p0':=(hg6.cell (p:=⟨b,off + k * 2,none⟩) (block_lt_of_cell hc1)).trans hc1;have p1':=(hg6.cell (p:=⟨b,off + k * 2 + 1,none⟩) (block_lt_of_cell hc2)).trans hc2;clear hg6 HC1 HBJ HGL;go_wp2_with fail;refine (HC2.out _).mono ?_;rintro e w7 ⟨rfl,hg7⟩;have HOB7:=Hh (Nat.le_of_lt HB6.out.lt);have HB7:=Hh (HB6.out.grow hg7);have HL7:=Hh (Below.trans HL6.out (Below.mono hg7 HOB7.out));have f0:=HB7.out.froz 0;have d0:=HB7.out.at0;clear hg7 HC2 HB6 HL6 p0' p1' hc1 hc2;go_wp2;go_roundg (n - (k + 1))
        case rel => exact ⟨k + 1,4,by omega,rfl,by go_num,Hh (by rw [HKS.out,← HKK.out];exact HKV.out.symm),by simp,Hh (by rw [HAS.out,HDB.out];rfl),HB7,HL7⟩
        case measure => omega
    ·obtain rfl:n = k:=by omega
     have hnn:¬ ((n:Nat):Int) < ((n:Nat):Int):=by omega
     have HTA:=Hh (show l.take n = l from List.take_of_length_le (by rw [HLN.out];exact Nat.le_refl _))
     rw [HTA.out] at HKK HDB;have HNM:Hid (numO s l = some (leastN s l)):=Hh (by rw [HO.out,if_pos ⟨by trivial,by trivial,HDB.out⟩])
     obtain ⟨w5,hw5⟩:∃ w5,w5 = wr:=⟨_,rfl⟩;subst hw5;clear hlt
     by_cases hk4:K = 4
     ·subst hk4
      have HM:Hid (numO s l = some ⟨4,s,[],l⟩):=Hh (by rw [HNM.out,HKL.out.2.1 HKK.out.symm])
      clear HNM HKK hK;have hm4:n ≤ 1100000:=hm;go_wp2
      go_loopg [13] n (fun g s13 wr => ∃ (k:Nat) (A3:Option Addr) (c3:Nat),k ≤ n ∧ g = n - k ∧ s13 = .int .i64 k ∧ Hid (BoxN wr ob 4 As n1 cA none 0 0 A3 k c3) ∧ Hid (OwnD (ob + 1) (.slice A3 k c3) (l.take k) wr) ∧ Hid (Below ob w4 wr))
      case atStart => exact ⟨0,none,0,Nat.zero_le _,rfl,rfl,HBJ,Hh (ownD_nil _ _),HGL⟩
      case round =>
       clear HBJ HGL;obtain ⟨k,A3,c3,hk,rfl,rfl,HBJ,HOW,HGL⟩:=hrel
       by_cases hlt:k < n
       ·have hlti:((k:Nat):Int) < ((n:Nat):Int):=by omega
        have hkl:k < l.length:=by rw [HLN.out];exact hlt
        obtain ⟨b,off,rfl,hb,hcl⟩:=(HR0.out.below (Below.trans HGW.out (Below.mono HGL.out (Nat.le_of_lt hrbo)))) (by omega)
        obtain ⟨hc1,hc2⟩:=hcl k hkl;have hin:=in_at HIN.out k;have HMS:=Hh (dec_step hkl);have HLT:Hid ((l.take k).length = k):=Hh (by rw [List.length_take,HLN.out];omega)
        clear hcl hkl hb;generalize l.getD k (0,0) = x at *;obtain ⟨x1,x2⟩:=x;dsimp only at hc1 hc2 hin;have HC2:=Hh (fun W => rwhole_any x1 x2 W hin.1 hin.2);clear hin;generalize wholeD x1 x2 = vw at *;obtain ⟨v,β⟩:=vw;dsimp only at HC2;generalize l.take k = xs at *;go_wp2_with fail;refine (HC2.out _).mono ?_;rintro e w7 ⟨rfl,hg7⟩;have HOB:=Hh (Nat.le_of_lt HBJ.out.lt);have HB7:=Hh (HBJ.out.grow hg7);have HL7:=Hh (Below.trans HGL.out (Below.mono hg7 HOB.out));have HO7:=Hh (HOW.out.grow hg7);have d0:=HB7.out.at0;have d3:=HB7.out.at3;have p1:=(hg7.cell (p:=⟨b,off + k * 2,none⟩) (block_lt_of_cell hc1)).trans hc1;have p2:=(hg7.cell (p:=⟨b,off + k * 2 + 1,none⟩) (block_lt_of_cell hc2)).trans hc2;clear hg7 HC2 HBJ HGL HOW hc1 hc2;go_upto_region 23 with fail
        clear d0;have hg8:=grow_new w7 (.cells #[.int .i64 x1,.int .i64 x2] 41);have HO8:=Hh (HO7.out.grow hg8);have HB8:=Hh (HB7.out.grow hg8);have HD8:=Hh (decs_lit1 w7 x1 x2);have HZ8:Hid (ob + 1 ≤ (w7.alloc (.cells #[.int .i64 x1,.int .i64 x2] 41)).heap.size):=Hh HB8.out.lt;have HL8:=Hh (Below.trans HL7.out (Below.mono hg8 (Nat.le_of_lt HB7.out.lt)));have d8:=HB8.out.at3;clear hg8
        go_region_law (refine step_more_decs rfl (.tmp 90) (.tmp 95) rfl (ob + 1) (.slice A3 k c3) xs (some ⟨w7.heap.size,0,none⟩) 1 1 [(x1,x2)] (by simp [Act.eval,Act.put]) HO8.out (by simp [Act.eval,Act.put]) rfl HD8.out (by rw [HLT.out];omega) HZ8.out ?_;intro v9 w9 HO9 HG9 HA9;obtain ⟨A9,c9,e9,hc9,hN9⟩:=HO9.out.new;rw [List.length_append,HLT.out,List.length_singleton] at e9;subst e9;have HB9:=Hh (BoxN.same HB8.out (HG9.out.block ob (Nat.lt_succ_self ob)));have f3:=HB9.out.froz 3;have d9:=HB9.out.at3;have HL9:Hid (Below ob w4 w9):=Hh (Below.trans HL8.out (Below.mono (show Below (ob + 1) (w7.alloc (.cells #[.int .i64 x1,.int .i64 x2] 41)) w9 from ⟨HG9.out.os,HG9.out.tape,HG9.out.output,HG9.out.size,HG9.out.block⟩) (Nat.le_succ ob)));clear HG9 HA9 hN9)
        all_goals
         go_wp2;go_roundg (n - (k + 1))
         case rel =>
          exact ⟨k + 1,A9,c9,by omega,rfl,by go_num,Hh (HB9.out.decsS A9 (k + 1) c9),Hh (by rw [HMS.out];exact own_putD HO9.out _ _),Hh (below_put HL9.out (Nat.le_refl ob) 3 _)⟩
         case measure => omega
       ·obtain rfl:n = k:=by omega
        have hnn:¬ ((n:Nat):Int) < ((n:Nat):Int):=by omega
        rw [HTA.out] at HOW;have HOX:=HBJ;obtain ⟨A9,c9,hv9,_,hN9⟩:=HOW.out.new;have ea:A3 = A9:=by rw [HLN.out] at hv9;exact (Value.slice.inj hv9).1
        rw [← ea] at hN9;clear ea hv9;have HBQ:Hid (BoxN wr rb 0 none 0 0 none 0 0 none 0 0):=Hh ((HGL.out.block rb hrbo).trans HBR.out);have HGQ:Hid (Grow w wr):=Hh (show Below w.heap.size w wr by rw [HRB.out];exact Below.trans HGW.out (Below.mono HGL.out (Nat.le_of_lt hrbo)))
        have hox:=HOX.out;have e0:=hox.at0;have e1:=hox.at1;have e2:=hox.at2;have e3:=hox.at3;clear hox;have hbx:=HBQ.out;have f0:=hbx.froz 0;have f1:=hbx.froz 1;have f2:=hbx.froz 2;have f3:=hbx.froz 3;have d0:=hbx.at0;have d1:=hbx.at1;have d2:=hbx.at2;have d3:=hbx.at3;clear hbx;go_wp2;have hle:w.heap.size ≤ rb:=by rw [HRB.out];exact Nat.le_refl _
        have hb:=HBQ.out.store 4 As none A3 n1 cA 0 0 n c3;have hg:=(((HGQ.out.put hle 0 (.int .i64 4)).put hle 1 (.slice As n1 cA)).put hle 2 (.slice none 0 0)).put hle 3 (.slice A3 n c3);have hkp:∀ b,rb < b → b < wr.heap.size → ((((wr.setCell ⟨rb,0,none⟩ (.int .i64 4)).setCell ⟨rb,1,none⟩ (.slice As n1 cA)).setCell ⟨rb,2,none⟩ (.slice none 0 0)).setCell ⟨rb,3,none⟩ (.slice A3 n c3)).heap[b]? = wr.heap[b]?:=fun b h1 h2 => (kept_store (w:=wr) (b:=rb) _ _ _ _).block b h2 (by show ¬ b = rb;omega)
        refine bodyPost_ret (v:=.tuple #[.agg #[.int .i64 4,.slice As n1 cA,.slice none 0 0,.slice A3 n c3],.bool true]) (by simp [results,Tryz.results99,go_sem,hb.at0,hb.at1,hb.at2,hb.at3]) rfl ?_
        have hns:NumsT (fun b => rb < b ∧ b < ob) wr As s:=HNS.out.keep fun b hb => ⟨hb,HGL.out.block b hb.2⟩;exact OneP.yes HM.out hg ⟨As,cA,none,0,A3,c3,by rw [← HSL.out,← HLN.out];rfl,hns.keep fun b hb2 => ⟨by first | omega | (rw [HRB.out];omega),hkp b hb2.1 (Nat.lt_trans hb2.2 HOX.out.lt)⟩,NumsT.nil_,hN9.keep fun b hb2 => ⟨by first | omega | (rw [HRB.out];omega),hkp b (by omega) hb2.2⟩⟩
     ·have hk4':(K == 4) = false:=by simpa using hk4
      have HM:Hid (numO s l = some ⟨K,s,l.map whlV,[]⟩):=Hh (by rw [HNM.out,HKL.out.2.2 (by rw [← HKK.out];exact hk4),← HKK.out])
      have HKI:Hid (K = 1 ∨ K = 2 ∨ K = 4):=Hh hK;clear HNM HKK hK hk4;go_wp2
      go_loopg [13] n (fun g s13 wr => ∃ (k:Nat) (A2:Option Addr) (c2:Nat),k ≤ n ∧ g = n - k ∧ s13 = .int .i64 k ∧ Hid (BoxN wr ob K As n1 cA A2 k c2 none 0 0) ∧ Hid (OwnI (ob + 1) (.slice A2 k c2) ((l.take k).map whlV) wr) ∧ Hid (Below ob w4 wr))
      case atStart => exact ⟨0,none,0,Nat.zero_le _,rfl,rfl,HBJ,Hh (ownI_nil _ _),HGL⟩
      case round =>
       clear HBJ HGL;obtain ⟨k,A2,c2,hk,rfl,rfl,HBJ,HOW,HGL⟩:=hrel
       by_cases hlt:k < n
       ·have hlti:((k:Nat):Int) < ((n:Nat):Int):=by omega
        have hkl:k < l.length:=by rw [HLN.out];exact hlt
        obtain ⟨b,off,rfl,hb,hcl⟩:=(HR0.out.below (Below.trans HGW.out (Below.mono HGL.out (Nat.le_of_lt hrbo)))) (by omega)
        obtain ⟨hc1,hc2⟩:=hcl k hkl;have hin:=in_at HIN.out k;have HMS:=Hh (whl_step hkl);have HLT:Hid (((l.take k).map whlV).length = k):=Hh (by rw [List.length_map,List.length_take,HLN.out];omega)
        clear hcl hkl hb;generalize l.getD k (0,0) = x at *;obtain ⟨x1,x2⟩:=x;dsimp only at hc1 hc2 hin;have HC2:=Hh (fun W => rwhole_any x1 x2 W hin.1 hin.2);have hwv:whlV (x1,x2) = (wholeD x1 x2).1:=rfl;rw [hwv] at HMS;clear hwv hin;generalize wholeD x1 x2 = vw at *;obtain ⟨v,β⟩:=vw;dsimp only at HC2 HMS;generalize (l.take k).map whlV = xs at *;go_wp2_with fail;refine (HC2.out _).mono ?_;rintro e w7 ⟨rfl,hg7⟩;have HOB:=Hh (Nat.le_of_lt HBJ.out.lt);have HB7:=Hh (HBJ.out.grow hg7);have HL7:=Hh (Below.trans HGL.out (Below.mono hg7 HOB.out));have HO7:=Hh (HOW.out.grow hg7);have d0:=HB7.out.at0;have d2:=HB7.out.at2;have hg8:=grow_new w7 (.cells #[.int .i64 v] 3);have HO8:=Hh (HO7.out.grow hg8);have HB8:=Hh (HB7.out.grow hg8);have HV8:=Hh (nums_lit1 w7 v);have HZ8:Hid (ob + 1 ≤ (w7.alloc (.cells #[.int .i64 v] 3)).heap.size):=Hh HB8.out.lt;have HL8:=Hh (Below.trans HL7.out (Below.mono hg8 (Nat.le_of_lt HB7.out.lt)));clear hg7 hg8 HC2 HBJ HGL HOW HO7 HL7 hc1 hc2;go_wp2_with (at_builtin;refine wpList_more_ints rfl _ _ rfl (ob + 1) (.slice A2 k c2) xs (some ⟨w7.heap.size,0,none⟩) 1 1 [v] rfl HO8.out rfl rfl HV8.out (by rw [HLT.out];omega) HZ8.out ?_;intro v9 w9 HO9 HG9 HA9;obtain ⟨A9,c9,e9,hc9,hN9⟩:=HO9.out.new;rw [List.length_append,HLT.out,List.length_singleton] at e9;subst e9;have HB9:=Hh (BoxN.same HB8.out (HG9.out.block ob (Nat.lt_succ_self ob)));have f2:=HB9.out.froz 2;have d9:=HB9.out.at2)
        go_roundg (n - (k + 1))
        case rel =>
         exact ⟨k + 1,A9,c9,by omega,rfl,by go_num,Hh (HB9.out.intsS A9 (k + 1) c9),Hh (by rw [HMS.out];exact own_put HO9.out _ _),Hh (below_put (Below.trans HL8.out (Below.mono HG9.out (Nat.le_succ ob))) (Nat.le_refl ob) 2 _)⟩
        case measure => omega
       ·obtain rfl:n = k:=by omega
        have hnn:¬ ((n:Nat):Int) < ((n:Nat):Int):=by omega
        rw [HTA.out] at HOW;have HOX:=HBJ;have HMW:Hid ((l.map whlV).length = n):=Hh (by rw [List.length_map,HLN.out])
        obtain ⟨A9,c9,hv9,_,hN9⟩:=HOW.out.new;have ea:A2 = A9:=by rw [HMW.out] at hv9;exact (Value.slice.inj hv9).1
        rw [← ea] at hN9;clear ea hv9;have HBQ:Hid (BoxN wr rb 0 none 0 0 none 0 0 none 0 0):=Hh ((HGL.out.block rb hrbo).trans HBR.out);have HGQ:Hid (Grow w wr):=Hh (show Below w.heap.size w wr by rw [HRB.out];exact Below.trans HGW.out (Below.mono HGL.out (Nat.le_of_lt hrbo)))
        have hox:=HOX.out;have e0:=hox.at0;have e1:=hox.at1;have e2:=hox.at2;have e3:=hox.at3;clear hox;have hbx:=HBQ.out;have f0:=hbx.froz 0;have f1:=hbx.froz 1;have f2:=hbx.froz 2;have f3:=hbx.froz 3;have d0:=hbx.at0;have d1:=hbx.at1;have d2:=hbx.at2;have d3:=hbx.at3;clear hbx;go_wp2;have hle:w.heap.size ≤ rb:=by rw [HRB.out];exact Nat.le_refl _
        have hb:=HBQ.out.store K As A2 none n1 cA n c2 0 0;have hg:=(((HGQ.out.put hle 0 (.int .i64 K)).put hle 1 (.slice As n1 cA)).put hle 2 (.slice A2 n c2)).put hle 3 (.slice none 0 0);have hkp:∀ b,rb < b → b < wr.heap.size → ((((wr.setCell ⟨rb,0,none⟩ (.int .i64 K)).setCell ⟨rb,1,none⟩ (.slice As n1 cA)).setCell ⟨rb,2,none⟩ (.slice A2 n c2)).setCell ⟨rb,3,none⟩ (.slice none 0 0)).heap[b]? = wr.heap[b]?:=fun b h1 h2 => (kept_store (w:=wr) (b:=rb) _ _ _ _).block b h2 (by show ¬ b = rb;omega)
        refine bodyPost_ret (v:=.tuple #[.agg #[.int .i64 K,.slice As n1 cA,.slice A2 n c2,.slice none 0 0],.bool true]) (by simp [results,Tryz.results99,go_sem,hb.at0,hb.at1,hb.at2,hb.at3]) rfl ?_
        have hns:NumsT (fun b => rb < b ∧ b < ob) wr As s:=HNS.out.keep fun b hb => ⟨hb,HGL.out.block b hb.2⟩;exact OneP.yes HM.out hg ⟨As,cA,A2,c2,none,0,by rw [← HSL.out,← HMW.out];rfl,hns.keep fun b hb2 => ⟨by first | omega | (rw [HRB.out];omega),hkp b hb2.1 (Nat.lt_trans hb2.2 HOX.out.lt)⟩,hN9.keep fun b hb2 => ⟨by first | omega | (rw [HRB.out];omega),hkp b (by omega) hb2.2⟩,DecsT.nil_⟩
theorem valsR_ok {n:Nd} (h:okB n = true) (hk:n.kind ≠ 3):valsR n = valsN n:=by
 have hfl:=(ok_right h).2;have hz:n.ints = [] ∨ n.decs = []:=by
  unfold fillB at hfl
  by_cases h1:n.kind = 1
  ·simp [h1] at hfl;exact .inr hfl.1.2
  ·by_cases h2:n.kind = 2
   ·simp [h2] at hfl;exact .inr hfl.2
   ·by_cases h4:n.kind = 4
    ·simp [h4] at hfl;exact .inl hfl.1.1
    ·by_cases h5:n.kind = 5
     ·simp [h5] at hfl;first | exact .inl hfl.1 | exact .inr hfl.2 | exact .inl hfl.1.1
     ·simp [h1,h2,h4,h5,hk] at hfl
 rcases hz with h | h <;> simp [valsR,valsN,h]
def plainS (h:Nd):Prop:=h.shp = [] ∧ h.kind = 3
def plainN (h:Nd):Prop:=h.shp = [] ∧ h.kind ≠ 3 ∧ h.kind ≠ 5
instance (h:Nd):Decidable (plainS h):=inferInstanceAs (Decidable (_ ∧ _))
instance (h:Nd):Decidable (plainN h):=inferInstanceAs (Decidable (_ ∧ _ ∧ _))
def sgs (h:Nd):List Int:=if plainS h then h.ints else []
def nbs (h:Nd):List (Int × Int):=if plainN h then valsR h else []
def sgK:List (List Nd) → List Int
 | [] => []
 | f :: fs => sgs (f.getD 0 nd0) ++ sgK fs
def nbK:List (List Nd) → List (Int × Int)
 | [] => []
 | f :: fs => nbs (f.getD 0 nd0) ++ nbK fs
def docK (n:Nd) (fs:List (List Nd)):List Nd :=
 if (sgK fs).length = fs.length then [⟨3,n.shp,sgK fs,[]⟩] else if (nbK fs).length = fs.length then [leastN n.shp (nbK fs)] else n :: flatK fs
theorem right_head {f:List Nd} (hr:rightA f = true) (hf:Fine f):∃ h t,f = h :: t ∧ okB h = true ∧ Fit h ∧ (∀ x ∈ h.ints,In x) ∧ (h.kind ≠ 5 → t = []):=by
 obtain ⟨n,l',ks,rfl,hok,_,_,hk⟩:=right_form hr hf;obtain ⟨h1,h2,_⟩:=hf.cons;exact ⟨n,l',rfl,hok,h1,h2,fun h => (hk h).1⟩
def Alr2 (fs:List (List Nd)):Prop:=∀ f ∈ fs,rightA f = true ∧ Fine f
theorem sg_cases:∀ {fs:List (List Nd)},Alr2 fs → (sgK fs).length ≤ fs.length ∧ ((sgK fs).length = fs.length → (∀ x ∈ flatK fs,plainS x) ∧ sgK fs = intsK (flatK fs) ∧ (flatK fs).length = fs.length) ∧ ((∀ x ∈ flatK fs,plainS x) → (sgK fs).length = fs.length)
 | [],_ => ⟨Nat.le_refl _,fun _ => ⟨fun x hx => (by cases hx),rfl,rfl⟩,fun _ => rfl⟩
 | f :: fs,h => by
  obtain ⟨i1,i2,i3⟩:=sg_cases (fs:=fs) fun q hq => h q (by simp [hq])
  obtain ⟨hr,hf⟩:=h f (by simp)
  obtain ⟨n,t,rfl,hok,hfit,hin,ht⟩:=right_head hr hf;have e:sgK ((n :: t) :: fs) = sgs n ++ sgK fs:=rfl
  by_cases hp:plainS n
  ·have ht':=ht (by rw [hp.2];decide)
   subst ht';have hl:=(ints_one hok hp.1 hp.2).1;have e2:sgs n = n.ints:=if_pos hp;rw [e,e2];refine ⟨by simp only [List.length_append,List.length_cons];omega,fun hq => ?_,fun hq => ?_⟩
   ·obtain ⟨j1,j2,j3⟩:=i2 (by simp only [List.length_append,List.length_cons] at hq;omega)
    refine ⟨fun x hx => ?_,by rw [j2];rfl,by simp only [flatK,List.length_append,List.length_cons,List.length_nil];omega⟩
    rcases List.mem_append.1 hx with hx | hx
    ·rw [List.mem_singleton.1 hx];exact hp
    ·exact j1 x hx
   ·have:=i3 fun x hx => hq x (List.mem_append.2 (.inr hx))
    simp only [List.length_append,List.length_cons];omega
  ·have e2:sgs n = []:=if_neg hp
   rw [e,e2,List.nil_append];refine ⟨by simp only [List.length_cons];omega,fun hq => ?_,fun hq => absurd (hq n (List.mem_append.2 (.inl (by simp)))) hp⟩
   simp only [List.length_cons] at hq;omega
theorem nb_cases:∀ {fs:List (List Nd)},Alr2 fs → (nbK fs).length ≤ fs.length ∧ ((nbK fs).length = fs.length → (∀ x ∈ flatK fs,plainN x) ∧ nbK fs = valsK (flatK fs) ∧ (flatK fs).length = fs.length) ∧ ((∀ x ∈ flatK fs,plainN x) → (nbK fs).length = fs.length)
 | [],_ => ⟨Nat.le_refl _,fun _ => ⟨fun x hx => (by cases hx),rfl,rfl⟩,fun _ => rfl⟩
 | f :: fs,h => by
  obtain ⟨i1,i2,i3⟩:=nb_cases (fs:=fs) fun q hq => h q (by simp [hq])
  obtain ⟨hr,hf⟩:=h f (by simp)
  obtain ⟨n,t,rfl,hok,hfit,hin,ht⟩:=right_head hr hf;have e:nbK ((n :: t) :: fs) = nbs n ++ nbK fs:=rfl
  by_cases hp:plainN n
  ·have ht':=ht hp.2.2
   subst ht';have hv:=valsR_ok hok hp.2.1;have hl:(valsN n).length = 1:=by
    have:=(vals_ok hok hp.2.1 hfit hin).2.2.2 hp.2.2;rw [hp.1,show cnt [] = 1 by decide] at this
    exact this.symm
   have e2:nbs n = valsN n:=by rw [← hv];exact if_pos hp
   rw [e,e2];refine ⟨by simp only [List.length_append,List.length_cons];omega,fun hq => ?_,fun hq => ?_⟩
   ·obtain ⟨j1,j2,j3⟩:=i2 (by simp only [List.length_append,List.length_cons] at hq;omega)
    refine ⟨fun x hx => ?_,by rw [j2];rfl,by simp only [flatK,List.length_append,List.length_cons,List.length_nil];omega⟩
    rcases List.mem_append.1 hx with hx | hx
    ·rw [List.mem_singleton.1 hx];exact hp
    ·exact j1 x hx
   ·have:=i3 fun x hx => hq x (List.mem_append.2 (.inr hx))
    simp only [List.length_append,List.length_cons];omega
  ·have e2:nbs n = []:=if_neg hp
   rw [e,e2,List.nil_append];refine ⟨by simp only [List.length_cons];omega,fun hq => ?_,fun hq => absurd (hq n (List.mem_append.2 (.inl (by simp)))) hp⟩
   simp only [List.length_cons] at hq;omega
theorem docK_is {n:Nd} {fs:List (List Nd)} (hk:n.kind = 5) (hne:fs ≠ []) (hf:Alr2 fs):docK n fs = clos n (flatK fs):=by
 obtain ⟨a1,a2,a3⟩:=sg_cases hf;obtain ⟨b1,b2,b3⟩:=nb_cases hf;have hpos:0 < fs.length:=List.length_pos_iff.2 hne;have e:foldO n (flatK fs) = joinO n.shp (flatK fs):=by unfold foldO;rw [if_neg (by rw [hk];decide),if_pos hk]
 unfold docK clos;rw [e];generalize hK:flatK fs = K at *
 by_cases h1:(sgK fs).length = fs.length
 ·obtain ⟨p,q,r⟩:=a2 h1
  obtain ⟨x,K',rfl⟩:∃ x K',K = x :: K':=by
   cases K with
   | nil => simp at r;omega
   | cons x K' => exact ⟨x,K',rfl⟩
  have hd:(x :: K').any deepB = false:=by
   rw [List.any_eq_false];intro y hy;obtain ⟨u,v⟩:=p y hy;simp [deepB,u,v]
  have hn:(x :: K').any numN = false:=by
   rw [List.any_eq_false];intro y hy;obtain ⟨u,v⟩:=p y hy;simp [numN,signN,v]
  have hs:(x :: K').any signN = true:=by
   rw [List.any_eq_true];exact ⟨x,by simp,by have:=(p x (by simp)).2;simp [signN,this]⟩
  rw [if_pos h1,q];simp [joinO,hd,hn,hs]
 ·rw [if_neg h1]
  by_cases h2:(nbK fs).length = fs.length
  ·obtain ⟨p,q,r⟩:=b2 h2
   have hd:K.any deepB = false:=by
    rw [List.any_eq_false];intro y hy;obtain ⟨u,_,v⟩:=p y hy;simp [deepB,u,v]
   have hs:K.any signN = false:=by
    rw [List.any_eq_false];intro y hy;obtain ⟨_,u,v⟩:=p y hy;simp [signN,u]
   rw [if_pos h2,q];simp [joinO,hd,hs]
  ·rw [if_neg h2]
   have h3:¬ ∀ x ∈ K,plainS x:=fun h => h1 (a3 h);have h4:¬ ∀ x ∈ K,plainN x:=fun h => h2 (b3 h);have hj:joinO n.shp K = none:=by
    unfold joinO;rw [if_pos]
    cases hd:K.any deepB with
    | true => rfl
    | false =>
     have hdd:∀ x ∈ K,x.kind ≠ 5 ∧ x.shp = []:=fun x hx => not_deep (by have:=List.any_eq_false.1 hd x hx;simpa using this)
     simp only [Bool.false_or,Bool.and_eq_true,List.any_eq_true];simp only [Classical.not_forall] at h3 h4;obtain ⟨x,hx,hx3⟩:=h3;obtain ⟨y,hy,hy4⟩:=h4;refine ⟨⟨y,hy,?_⟩,⟨x,hx,?_⟩⟩
     ·have:y.kind = 3:=Classical.byContradiction fun h => hy4 ⟨(hdd y hy).2,h,(hdd y hy).1⟩
      simp [signN,this]
     ·have:x.kind ≠ 3:=fun h => hx3 ⟨(hdd x hx).2,h⟩
      simp [numN,signN,this]
   rw [hj]
theorem form_sign {xs:List Nd} (hr:rightA xs = true) (hf:Fine xs) (hk:(xs.getD 0 nd0).kind = 3):formA xs = xs:=by
 obtain ⟨n,l',ks,rfl,hok,he,_,hl⟩:=right_form hr hf;have hk':n.kind = 3:=hk;obtain ⟨e1,e2⟩:=hl (by rw [hk'];decide)
 subst e1 e2;rw [he,leaf_form (by rw [hk'];decide),if_pos hk']
theorem form_leaf {xs:List Nd} (hr:rightA xs = true) (hf:Fine xs) (h3:(xs.getD 0 nd0).kind ≠ 3) (h5:(xs.getD 0 nd0).kind ≠ 5) :
  formA xs = [leastN (xs.getD 0 nd0).shp (valsR (xs.getD 0 nd0))] ∧ numO (xs.getD 0 nd0).shp (valsR (xs.getD 0 nd0)) = some (leastN (xs.getD 0 nd0).shp (valsR (xs.getD 0 nd0))) ∧ (∀ x ∈ valsR (xs.getD 0 nd0),In x.1 ∧ In x.2) ∧ (valsR (xs.getD 0 nd0)).length ≤ 1100000:=by
 obtain ⟨n,l',ks,rfl,hok,he,_,hl⟩:=right_form hr hf;have e:(n :: l').getD 0 nd0 = n:=rfl;rw [e] at h3 h5 ⊢;obtain ⟨hfit,hin,_⟩:=hf.cons;obtain ⟨j1,j2,j3,j4⟩:=vals_ok hok h3 hfit hin;rw [valsR_ok hok h3];refine ⟨by rw [he,leaf_form h5,if_neg h3],?_,j2,j3⟩
 unfold numO;rw [if_pos ⟨(ok_right hok).1,j4 h5,j1⟩]
theorem form_none {xs:List Nd} (hr:rightA xs = true) (hf:Fine xs) (h5:(xs.getD 0 nd0).kind = 5) (hk:kidsA xs = []) :
  formA xs = [leastN (xs.getD 0 nd0).shp (valsR (xs.getD 0 nd0))] ∧ numO (xs.getD 0 nd0).shp (valsR (xs.getD 0 nd0)) = some (leastN (xs.getD 0 nd0).shp (valsR (xs.getD 0 nd0))) ∧ (∀ x ∈ valsR (xs.getD 0 nd0),In x.1 ∧ In x.2) ∧ (valsR (xs.getD 0 nd0)).length ≤ 1100000:=by
 obtain ⟨q1,q2,q3,q4,q5,q6⟩:=kids_nest hr h5;rw [hk] at q1 q5 q6;obtain ⟨k1,k2,k3⟩:=nest_form q6;have hok:=(nest_facts q6).1;generalize hs:(xs.getD 0 nd0).shp = sh at *;have hv:valsR (xs.getD 0 nd0) = []:=by rw [← q5];rfl
 rw [hv];refine ⟨?_,?_,(fun x hx => by cases hx),Nat.zero_le _⟩
 ·rw [← q5,k2]
  rfl
 ·unfold numO
  rw [if_pos ⟨(ok_right hok).1,q1.symm,rfl⟩]
theorem isum_mem:∀ {ks:List (List Nd)} {k:List Nd},k ∈ ks → (ws k).d ≤ dmax ks
 | q :: ks,k,h => by
  rcases List.mem_cons.1 h with rfl | h
  ·simp only [dmax];omega
  ·have:=isum_mem h
   simp only [dmax];omega
theorem fine_mem:∀ {ks:List (List Nd)},Fine (flatK ks) → ∀ k ∈ ks,Fine k
 | [],_,k,hk => by cases hk
 | q :: ks,h,k,hk => by
  have h1:Fine q:=by
   have:=h.take q.length
   rwa [show flatK (q :: ks) = q ++ flatK ks from rfl,List.take_left] at this
  have h2:Fine (flatK ks):=by
   have:=h.drop q.length
   rwa [show flatK (q :: ks) = q ++ flatK ks from rfl,List.drop_left] at this
  rcases List.mem_cons.1 hk with rfl | hk
  ·exact h1
  ·exact fine_mem h2 k hk
theorem form_nest {xs:List Nd} (hr:rightA xs = true) (hf:Fine xs) (h5:(xs.getD 0 nd0).kind = 5) :
  (∀ k ∈ kidsA xs,rightA k = true ∧ Fine k ∧ (ws k).d + 1 ≤ (ws xs).d) ∧ Alr2 ((kidsA xs).map formA) ∧ (flatK (kidsA xs)).length + 1 = xs.length ∧ (flatK ((kidsA xs).map formA)).length ≤ (flatK (kidsA xs)).length ∧
  nest5 (xs.getD 0 nd0).shp = xs.getD 0 nd0 ∧ (kidsA xs).length = cnt (xs.getD 0 nd0).shp ∧ rightB (xs.getD 0 nd0).shp = true ∧
  (kidsA xs ≠ [] → formA xs = docK (nest5 (xs.getD 0 nd0).shp) ((kidsA xs).map formA)):=by
 obtain ⟨q1,q2,q3,q4,q5,q6⟩:=kids_nest hr h5;obtain ⟨k1,k2,k3⟩:=nest_form q6;have hok:=(nest_facts q6).1;generalize kidsA xs = ks at *;have hn:xs.getD 0 nd0 = nest5 (xs.getD 0 nd0).shp:=congrArg (fun l => List.getD l 0 nd0) q5.symm;generalize (xs.getD 0 nd0).shp = sh at *;have hfk:Fine (flatK ks):=by
  have:=hf.drop 1;rw [← q5] at this;exact this
 have hfm:=fine_mem hfk;have hal:Alr2 (ks.map formA):=fun f hm => by
  obtain ⟨k,hk,rfl⟩:=List.mem_map.1 hm;obtain ⟨j1,_,_,_,j5,_⟩:=form_right (q2 k hk) (hfm k hk);exact ⟨j1,j5⟩
 refine ⟨fun k hk => ⟨q2 k hk,hfm k hk,by rw [q4];have:=isum_mem hk;omega⟩,hal,by rw [← q5];simp,?_,hn.symm,q1,(ok_right hok).1,fun hne => ?_⟩
 ·have:∀ ks:List (List Nd),(∀ k ∈ ks,rightA k = true ∧ Fine k) → (flatK (ks.map formA)).length ≤ (flatK ks).length:=fun ks h => by
   induction ks with
   | nil => exact Nat.le_refl _
   | cons k ks ih =>
    obtain ⟨h1,h2⟩:=h k (by simp)
    have:=ih fun q hq => h q (by simp [hq])
    obtain ⟨_,j2,_⟩:=form_right h1 h2;simp only [List.map_cons,flatK,List.length_append];omega
  exact this ks fun k hk => ⟨q2 k hk,hfm k hk⟩
 ·rw [docK_is rfl (by simpa using hne) hal,← k2,q5]
theorem num_docK {sh:List Int} {fs:List (List Nd)} (hs:rightB sh = true) (hc:fs.length = cnt sh) (hf:Alr2 fs) (h:(nbK fs).length = fs.length):numO sh (nbK fs) = some (leastN sh (nbK fs)) ∧ ∀ x ∈ nbK fs,In x.1 ∧ In x.2:=by
 obtain ⟨b1,b2,b3⟩:=nb_cases hf;obtain ⟨p,q,r⟩:=b2 h;have hall:∀ n ∈ flatK fs,okB n = true ∧ n.shp = [] ∧ n.kind ≠ 3 ∧ n.kind ≠ 5 ∧ Fit n ∧ ∀ x ∈ n.ints,In x:=by
  clear b1 b2 b3 q r h hc
  induction fs with
  | nil => intro n hn;cases hn
  | cons f fs ih =>
   intro n hn
   rcases List.mem_append.1 hn with hn' | hn'
   ·obtain ⟨hr,hff⟩:=hf f (by simp)
    obtain ⟨m,t,rfl,hok,hfit,hin,ht⟩:=right_head hr hff;obtain ⟨pa,pb,pc⟩:=p m (List.mem_append.2 (.inl (by simp)))
    have:=ht pc;subst this;rw [List.mem_singleton.1 hn'];exact ⟨hok,pa,pb,pc,hfit,hin⟩
   ·exact ih (fun q hq => hf q (by simp [hq])) (fun x hx => p x (List.mem_append.2 (.inr hx))) n hn'
 obtain ⟨v1,v2,v3⟩:=vals_len hall;rw [← q] at v1 v2 v3;exact ⟨by unfold numO;rw [if_pos ⟨hs,by omega,v2⟩],v3⟩
open Go.RowKit Go.Lib
theorem sgK_app (a b:List (List Nd)):sgK (a ++ b) = sgK a ++ sgK b:=by
 induction a with
 | nil => rfl
 | cons k a ih => simp only [List.cons_append,sgK,ih,List.append_assoc]
theorem nbK_app (a b:List (List Nd)):nbK (a ++ b) = nbK a ++ nbK b:=by
 induction a with
 | nil => rfl
 | cons k a ih => simp only [List.cons_append,nbK,ih,List.append_assoc]
theorem sgK_step {ks:List (List Nd)} {k:Nat} (h:k < ks.length):sgK (ks.take (k + 1)) = sgK (ks.take k) ++ sgs ((ks.getD k []).getD 0 nd0):=by
 rw [take_kid h,sgK_app];simp [sgK]
theorem nbK_step {ks:List (List Nd)} {k:Nat} (h:k < ks.length):nbK (ks.take (k + 1)) = nbK (ks.take k) ++ nbs ((ks.getD k []).getD 0 nd0):=by
 rw [take_kid h,nbK_app];simp [nbK]
theorem alr2_take {fs:List (List Nd)} (h:Alr2 fs) (k:Nat):Alr2 (fs.take k):=fun f hf => h f (List.mem_of_mem_take hf)
theorem alr2_at {fs:List (List Nd)} (h:Alr2 fs) {k:Nat} (hk:k < fs.length):rightA (fs.getD k []) = true ∧ Fine (fs.getD k []) :=
 h _ (by rw [show fs.getD k [] = fs[k] by simp [List.getD,hk]];exact List.getElem_mem hk)
theorem map_at {ks:List (List Nd)} {k:Nat} (h:k < ks.length):(ks.map formA).getD k [] = formA (ks.getD k []):=by
 simp [List.getD,h]
theorem kid_mem {ks:List (List Nd)} {k:Nat} (h:k < ks.length):ks.getD k [] ∈ ks:=by
 rw [show ks.getD k [] = ks[k] by simp [List.getD,h]];exact List.getElem_mem h
theorem node_litT {z:Nat} {W:World} {B1 B2 B3:Option Addr} {e1 e2 e3 q1 q2 q3:Nat} {q:Nd} (h1:q.shp.length = q1) (h2:q.ints.length = q2) (h3:q.decs.length = q3) (hz:z ≤ W.heap.size) (h:NdT (fun b => z ≤ b ∧ b < W.heap.size) W B1 B2 B3 q) :
  NodesT (fun b => z ≤ b ∧ b < (W.alloc (.cells #[.int .i64 q.kind,.slice B1 q1 e1,.slice B2 q2 e2,.slice B3 q3 e3] 34)).heap.size) (W.alloc (.cells #[.int .i64 q.kind,.slice B1 q1 e1,.slice B2 q2 e2,.slice B3 q3 e3] 34)) (some ⟨W.heap.size,0,none⟩) [q]:=fun _ => by
 subst h1 h2 h3;have hb:=boxN_new W q.kind B1 q.shp.length e1 B2 q.ints.length e2 B3 q.decs.length e3;have hg:=grow_new W (.cells #[.int .i64 q.kind,.slice B1 q.shp.length e1,.slice B2 q.ints.length e2,.slice B3 q.decs.length e3] 34);refine ⟨W.heap.size,0,rfl,⟨hz,hb.lt⟩,fun i hi => ?_⟩;obtain rfl:i = 0:=by simpa using hi
 have hh:=h.keep (w':=W.alloc (.cells #[.int .i64 q.kind,.slice B1 q.shp.length e1,.slice B2 q.ints.length e2,.slice B3 q.decs.length e3] 34)) (T':=fun b => z ≤ b ∧ b < (W.alloc (.cells #[.int .i64 q.kind,.slice B1 q.shp.length e1,.slice B2 q.ints.length e2,.slice B3 q.decs.length e3] 34)).heap.size) (fun b hb => ⟨⟨hb.1,Nat.lt_of_lt_of_le hb.2 hg.size⟩,hg.block b hb.2⟩);exact ⟨B1,e1,B2,e2,B3,e3,hb.at0,hb.at1,hb.at2,hb.at3,hh.1,hh.2.1,hh.2.2⟩
theorem sgs_yes {h:Nd} (h1:h.shp.length = 0) (h2:h.kind = 3):sgs h = h.ints:=if_pos ⟨List.eq_nil_of_length_eq_zero h1,h2⟩
theorem sgs_no {h:Nd} (hn:¬ (h.shp.length = 0 ∧ h.kind = 3)):sgs h = []:=if_neg fun e => hn ⟨by rw [e.1];rfl,e.2⟩
theorem nbs_yes {h:Nd} (h1:h.shp.length = 0) (h2:h.kind ≠ 3) (h3:h.kind ≠ 5):nbs h = valsR h:=if_pos ⟨List.eq_nil_of_length_eq_zero h1,h2,h3⟩
theorem nbs_no {h:Nd} (hn:¬ (h.shp.length = 0 ∧ h.kind ≠ 3 ∧ h.kind ≠ 5)):nbs h = []:=if_neg fun e => hn ⟨by rw [e.1];rfl,e.2⟩
theorem Trio.lt {B:Nat} {v7 v8 v9:Value} {ns:List Nd} {xs:List Int} {ds:List (Int × Int)} {w:World} (h:Trio B v7 v8 v9 ns xs ds w):(∀ q,v7.ownBlock = some q → q < w.heap.size) ∧ (∀ q,v8.ownBlock = some q → q < w.heap.size) ∧ ∀ q,v9.ownBlock = some q → q < w.heap.size :=
 ⟨fun q hq => (h.1.lt hq).2,fun q hq => (World.ownsRow.lt h.2.1 q hq).2,fun q hq => (World.ownsRow.lt h.2.2.1 q hq).2⟩
theorem Trio.start {B:Nat} (W:World) (sh:List Int) (As:Option Addr) (l1 cA:Nat) (hl:sh.length = l1) (hB:B ≤ W.heap.size) (h:NewN B As sh W) :
  Trio B (.slice (some ⟨W.heap.size,0,none⟩) 1 1) (.slice none 0 0) (.slice none 0 0) [nest5 sh] [] [] (W.alloc (.cells #[.int .i64 5,.slice As l1 cA,.slice none 0 0,.slice none 0 0] 34)):=by
 subst hl;have hg:=grow_new W (.cells #[.int .i64 5,.slice As sh.length cA,.slice none 0 0,.slice none 0 0] 34);refine ⟨⟨Nat.le_trans hB hg.size,[.int .i64 5,.slice As sh.length cA,.slice none 0 0,.slice none 0 0],⟨rfl,.inr ⟨W.heap.size,1,#[.int .i64 5,.slice As sh.length cA,.slice none 0 0,.slice none 0 0],rfl,hB,heap_alloc_new W _,Nat.le_refl _,by decide,rfl,rfl⟩⟩,fun i hi => ?_⟩,ownI_nil _ _,ownD_nil _ _,fun q _ => ⟨(fun e => by cases e),(fun e => by cases e)⟩,fun q e => by cases e⟩
 obtain rfl:i = 0:=by simpa using hi
 refine ⟨As,cA,none,0,none,0,rfl,rfl,rfl,rfl,h.keep fun b hb => ⟨⟨hb.1,fun e => ?_,Nat.lt_of_lt_of_le hb.2 hg.size,fun e => by rcases e with e | e <;> cases e⟩,hg.block b hb.2⟩,NumsT.nil_,DecsT.nil_⟩
 have e':W.heap.size = b:=Option.some.inj e;omega
theorem rform_nest (d:Nat) (ih:∀ (A:Option Addr) (n c:Nat) (ns:List Nd) (w:World),ns.length = n → n ≤ c → Fine ns → rightA ns = true → (ws ns).d ≤ d → Nodes w w.heap.size A ns →
  Calls Tryz.prog 105 #[.slice A n c] w (RCopyP (formA ns) w)) (A:Option Addr) (n c:Nat) (ns:List Nd) (w:World) (hn:ns.length = n) (hnc:n ≤ c) (hf:Fine ns) (hr:rightA ns = true) (hd:(ws ns).d ≤ d + 1) (hns:Nodes w w.heap.size A ns)
  (h5:(ns.getD 0 nd0).kind = 5) (hk0:kidsA ns ≠ []):Calls Tryz.prog 105 #[.slice A n c] w (RCopyP (formA ns) w):=by
 have IH:=Hh ih;clear ih;have hn6:n ≤ 1100000:=by rw [← hn];exact hf.1
 have hnp:1 ≤ n:=by rw [← hn];exact List.length_pos_iff.2 (right_ne hr)
 have HN:=Hh hn;have HF:=Hh hf;have HD:=Hh hd;have HNS:=Hh hns;obtain ⟨e1,e2,e3,e4,e5,e6,e7,e8⟩:=form_nest hr hf h5;have HKR:=Hh e1;have HALR:=Hh e2;have HFL:=Hh e3;have HFM:=Hh e4;have HXN:=Hh e5;have HKC:=Hh e6;have HSB:=Hh e7;have HDOC:=Hh (e8 hk0);clear e1 e2 e3 e4 e5 e6 e7 e8;obtain ⟨b,off,rfl,hb,hat⟩:=hns (by omega)
 obtain ⟨A1,c1,A2,c2,A3,c3,p0,p1,p2,p3,hnd⟩:=hat 0 (by omega)
 rw [Nat.zero_mul,Nat.add_zero] at p0 p1 p2 p3;have hxm:ns.getD 0 nd0 ∈ ns:=by
  rw [show ns.getD 0 nd0 = ns[0]'(by omega) by simp [List.getD,show 0 < ns.length by omega]]
  exact List.getElem_mem _
 have HFX:=Hh (hf.2.1 _ hxm);have HND:=Hh hnd;clear hn hf hr hd hns hat hnd hb hxm;generalize ns.getD 0 nd0 = x at *;have hbx:=boxN_new w x.kind A1 x.shp.length c1 A2 x.ints.length c2 A3 x.decs.length c3;have hg1:=grow_new w (.cells #[.int .i64 x.kind,.slice A1 x.shp.length c1,.slice A2 x.ints.length c2,.slice A3 x.decs.length c3] 34);have HBX:=Hh hbx;have HG1:=Hh hg1;have HKD:=Hh (rkids_any (some ⟨b,off,none⟩) n c ns _ HN.out hn6 hnc HF.out.2.1 (HNS.out.grow hg1));clear hbx hg1;have hnz:¬ (kidsA ns).length = 0:=fun h => hk0 (List.eq_nil_of_length_eq_zero h);generalize kidsA ns = ks at *;obtain ⟨nk,hnk⟩:∃ nk,ks.length = nk:=⟨_,rfl⟩;have HNK:=Hh hnk;have hnki:(((nk:Nat):Int) == 0) = false:=by simp;omega
 have hnkz:decide (nk = 0) = false:=decide_eq_false (by omega)
 have hnk0:1 ≤ nk:=by omega
 have hnkm:nk ≤ 1048576:=by
  rw [← hnk,HKC.out,cnt_yes HSB.out];exact (right_iff.1 HSB.out).2.2
 obtain ⟨l1,hl1⟩:∃ l1,x.shp.length = l1:=⟨_,rfl⟩;have HL1:=Hh hl1;have hs1:l1 ≤ 1100000:=by rw [← hl1];exact HFX.out.2.1
 obtain ⟨fs,hfs⟩:∃ fs,ks.map formA = fs:=⟨_,rfl⟩;have HFS:=Hh hfs;have HFN:Hid (fs.length = nk):=Hh (by rw [← hfs,List.length_map,hnk])
 rw [hfs] at HALR HFM HDOC;have HSZ:Hid ((flatK fs).length ≤ 1100000):=Hh (by have h1:=HFL.out;have h2:=HFM.out;have h3:=HN.out;omega)
 clear hfs HFM HFL HF;rw [h5] at p0 HBX HG1 HKD;rw [hl1] at p1 HBX HG1 HKD;generalize x.ints.length = l2 at *;generalize x.decs.length = l3 at *;clear hl1 hnz hk0
 go_enter Tryz.func105,Tryz.ntmps105
 go_wp2_with fail;refine (HKD.out).mono ?_;rintro e w2 ⟨AK,cK,rfl,-,-,hk2,hg2⟩;rw [hnk];have HB2:=Hh (HBX.out.grow hg2);have HG2:=Hh (HG1.out.trans hg2);have HS2:=Hh ((HND.out.grow HG2.out).1);have HK2:=Hh hk2;obtain ⟨nb,hnb⟩:∃ nb,w.heap.size = nb:=⟨_,rfl⟩;have HNB:=Hh hnb;have d0:=HB2.out.at0;have d1:=HB2.out.at1;rw [hnb] at HB2 d0 d1;clear hg2 hk2 hnk HKD HBX HG1 p0 p1 p2 p3;obtain ⟨z,hz⟩:∃ z,w2.heap.size = z:=⟨_,rfl⟩;have HZ:=Hh hz;clear hz;go_upto_region 8 with fail
 clear hnb;have hgl:=grow_new w2 (.cells #[] 3);have HE2:=Hh (ownI_lit00 (B:=z) w2 (by rw [HZ.out];exact Nat.le_refl _))
 have HS3:=Hh (HS2.out.grow hgl);have HZ3:Hid (z ≤ (w2.alloc (.cells #[] 3)).heap.size):=Hh (by have:=hgl.size;rw [HZ.out] at this;exact this)
 have d1':=(HB2.out.grow hgl).at1;have HGL:=Hh hgl;clear hgl;go_upto_region 9 with (at_builtin;refine wpList_more_ints rfl _ _ rfl z (.slice (some ⟨w2.heap.size,0,none⟩) 0 0) [] A1 l1 c1 x.shp rfl HE2.out rfl HL1.out HS3.out (by simp;omega) HZ3.out ?_;intro v3 w3 HO3 HB3 HA3;obtain ⟨As,cA,e3,hcA,hNA⟩:=HO3.out.new;rw [List.nil_append,HL1.out] at e3;subst e3)
 have hzs3:=Nat.le_trans HZ3.out HB3.out.size;have hrows:=Trio.start (B:=z) w3 x.shp As l1 cA HL1.out hzs3 hNA
 have HGW4:Hid (Grow w2 (w3.alloc (.cells #[.int .i64 5,.slice As l1 cA,.slice none 0 0,.slice none 0 0] 34))):=Hh (by
  refine Grow.trans ?_ (grow_new w3 _);unfold Grow;have h1:=HGL.out;unfold Grow at h1;rw [HZ.out] at h1 ⊢
  exact Below.trans h1 HB3.out)
 obtain ⟨v7,hv7⟩:∃ v7,v7 = Value.slice (some ⟨w3.heap.size,0,none⟩) 1 1:=⟨_,rfl⟩;obtain ⟨w4,hw4⟩:∃ w4,w4 = w3.alloc (.cells #[.int .i64 5,.slice As l1 cA,.slice none 0 0,.slice none 0 0] 34):=⟨_,rfl⟩;rw [← hw4,← hv7] at hrows;rw [← hw4] at HGW4 ⊢;rw [← hv7];have HRW:=Hh hrows;clear hrows hw4 hv7 hzs3 hcA hNA HO3 HB3 HA3 HE2 HS3 HZ3 d1' HGL d0 d1;go_wp2
 go_loopg [7,8,9,10] nk (fun g s7 s8 s9 s10 wr => ∃ (k:Nat) (v7 v8 v9:Value),k ≤ nk ∧ g = nk - k ∧ s10 = .int .i64 k ∧ v7 = s7 ∧ v8 = s8 ∧ v9 = s9 ∧ Hid (Trio z v7 v8 v9 (nest5 x.shp :: flatK (fs.take k)) (sgK (fs.take k)) (nbK (fs.take k)) wr) ∧ Hid (Grow w2 wr))
 case atStart => exact ⟨0,v7,_,_,Nat.zero_le _,rfl,rfl,rfl,rfl,rfl,HRW,HGW4⟩
 case round =>
  clear HRW HGW4;obtain ⟨k,v7,v8,v9,hk,rfl,rfl,rfl,rfl,rfl,HRW,HGR⟩:=hrel
  by_cases hlt:k < nk
  ·have hlti:((k:Nat):Int) < ((nk:Nat):Int):=by omega
   have hkl:k < ks.length:=by rw [HNK.out];exact hlt
   have hkf:k < fs.length:=by rw [HFN.out];exact hlt
   obtain ⟨b',off',rfl,hb',hcl⟩:=(HK2.out.grow HGR.out) (by omega)
   obtain ⟨A',c',hc,hkn,hkd⟩:=hcl k hkl;have HRT:=Hh (alr2_at HALR.out hkf);have HEQ:Hid (fs.getD k [] = formA (ks.getD k [])):=Hh (by rw [← HFS.out];exact map_at hkl)
   obtain ⟨hk1,hk2,hk3⟩:=HKR.out _ (kid_mem hkl);have HC:=Hh (IH.out A' (ks.getD k []).length c' (ks.getD k []) wr rfl hkn hk2 hk1 (by have:=HD.out;omega) hkd)
   rw [← HEQ.out] at HC;have HST7:=Hh (flatK_step hkf);have HST8:=Hh (sgK_step hkf);have HST9:=Hh (nbK_step hkf)
   have HSA:Hid ((flatK (fs.take k)).length + (fs.getD k []).length ≤ 1100000):=Hh (by
    have h1:=flatK_le fs (k + 1);rw [HST7.out,List.length_append] at h1
    exact Nat.le_trans h1 HSZ.out)
   have hsl:=(sg_cases (alr2_take HALR.out k)).1;have hnl:=(nb_cases (alr2_take HALR.out k)).1;rw [List.length_take_of_le (by omega)] at hsl hnl
   have HSL:=Hh hsl;have HNL:=Hh hnl;clear hcl hb' hkn hkd hk1 hk2 hk3 hkl hkf HEQ hsl hnl;generalize flatK (fs.take k) = R7 at *;generalize sgK (fs.take k) = R8 at *;generalize nbK (fs.take k) = R9 at *;generalize (ks.getD k []).length = lk at *;obtain ⟨h0,t,hft,hok,hfit,hin,-⟩:=right_head HRT.out.1 HRT.out.2;have hf0:(fs.getD k []).getD 0 nd0 = h0:=by rw [hft];rfl
   rw [hf0] at HST8 HST9;have HFP:Hid (0 < (fs.getD k []).length):=Hh (by rw [hft];simp)
   have HF0:=Hh hf0;have HFIT:=Hh hfit;have HIN:=Hh hin;clear hf0 hft hok hfit hin HRT;generalize fs.getD k [] = F at *;obtain ⟨m,hm⟩:∃ m,F.length = m:=⟨_,rfl⟩;have HM:=Hh hm;rw [hm] at HSA HFP;clear hm;go_wp2_with fail;refine (HC.out).mono ?_;rintro e w5 ⟨A5,c5,rfl,-,hN5,hg5⟩;rw [HM.out];have HR5:=Hh (HRW.out.grow hg5);have HL0:=Hh HRW.out.lt;have HN5:=Hh hN5;have HG5:=Hh (HGR.out.trans hg5);have HZR:=Hh HRW.out.size;have HGZ:=Hh hg5.size;clear hg5 hN5 HC hc HRW HGR;go_upto_region 16 with (at_builtin;refine wpList_more_nodes rfl _ _ rfl (fun b => v8.ownBlock = some b ∨ v9.ownBlock = some b) z wr.heap.size v7 (nest5 x.shp :: R7) F A5 m c5 rfl HR5.out.1 rfl HM.out HN5.out HZR.out HL0.out.1 (fun b hb e => by rcases e with e | e;exact Nat.lt_irrefl _ (Nat.lt_of_lt_of_le (HL0.out.2.1 b e) hb);exact Nat.lt_irrefl _ (Nat.lt_of_lt_of_le (HL0.out.2.2 b e) hb)) (by rw [List.length_cons];have:=HSA.out;omega) ?_;intro v7' w6 HO6 HB6 HA6)
   have HR6:=Hh (HR5.out.put7 HO6.out HA6.out)
   have HG6:Hid (Grow w2 w6):=Hh (by
    have h1:=HG5.out;unfold Grow at h1 ⊢;rw [HZ.out] at h1 ⊢
    exact Below.trans h1 HB6.out)
   have hN6:=HN5.out.keep (w':=w6) (T':=fun b => wr.heap.size ≤ b ∧ b < w6.heap.size) (fun b hb => ⟨⟨hb.1,Nat.lt_of_lt_of_le hb.2 HB6.out.size⟩,HA6.out.1 b hb.2 fun e => Nat.lt_irrefl _ (Nat.lt_of_lt_of_le (HL0.out.1 b e) hb.1)⟩);obtain ⟨b5,o5,rfl,hb5,hat⟩:=hN6 (by rw [HM.out];exact HFP.out)
   obtain ⟨B1,d1,B2,d2,B3,d3,q0,q1,q2,q3,n1,n2,n3⟩:=hat 0 (by rw [HM.out];exact HFP.out)
   rw [HF0.out] at q0 q1 q2 q3 n1 n2 n3;rw [Nat.zero_mul,Nat.add_zero] at q0 q1 q2 q3;have HND0:Hid (IsNd w6 w6.heap.size B1 B2 B3 h0):=Hh ⟨n1.nums,n2.nums,n3.decs⟩;have HB5:=Hh hb5;clear hat hN6 n1 n2 n3 hb5 HO6 HB6 HA6 HR5 HG5 HN5 HF0;have HRV:=Hh (fun W h => rvalues_any h0 B1 B2 B3 d1 d2 d3 W HFIT.out HIN.out h);have HSY:=Hh (fun a b => sgs_yes (h:=h0) a b);have HSN:=Hh (fun a => sgs_no (h:=h0) a);have HNY:=Hh (fun a b c => nbs_yes (h:=h0) a b c);have HNN:=Hh (fun a => nbs_no (h:=h0) a);have hil:=HFIT.out.2.2.1;have hdl:=HFIT.out.2.2.2.1;generalize h0.kind = kd at *;generalize h0.shp.length = ls at *;obtain ⟨li,hli⟩:∃ li,h0.ints.length = li:=⟨_,rfl⟩;have HLI:=Hh hli;rw [hli] at HRV hil;rw [hli] at q2;obtain ⟨ld,hld⟩:∃ ld,h0.decs.length = ld:=⟨_,rfl⟩;have HLD:=Hh hld;rw [hld] at HRV q3 hdl;clear hli hld
   by_cases hls:ls = 0
   rotate_left
   ·have h1:(((ls:Nat):Int) == 0) = false:=by simp;omega
    have HS8:=Hh (HSN.out (fun e => hls e.1));have HS9:=Hh (HNN.out (fun e => hls e.1));rw [HS8.out,List.append_nil] at HST8;rw [HS9.out,List.append_nil] at HST9;clear hls;go_wp2_with fail;go_roundg (nk - (k + 1))
    case rel => exact ⟨k + 1,v7',v8,v9,by omega,rfl,by go_num,rfl,rfl,rfl,Hh (by rw [HST7.out,HST8.out,HST9.out];exact HR6.out),HG6⟩
    case measure => omega
   subst hls
   by_cases hk3:kd = 3
   ·subst hk3
    have HS8:=Hh (HSY.out rfl rfl);have HS9:=Hh (HNN.out (fun e => e.2.1 rfl));rw [HS8.out] at HST8;rw [HS9.out,List.append_nil] at HST9;have HI6:Hid (Nums .i64 w6 w6.heap.size B2 h0.ints):=Hh HND0.out.2.1;have HZ6:=Hh HR6.out.size;go_upto_region 18 with (at_builtin;refine wpList_more_ints rfl _ _ rfl z v8 R8 B2 li d2 h0.ints rfl HR6.out.2.1 rfl HLI.out HI6.out (by have:=HSL.out;omega) HZ6.out ?_;intro v8' w7 HO7 HB7 HA7)
    have HR7:=Hh (HR6.out.put8 HO7.out HB7.out HA7.out)
    have HG7:Hid (Grow w2 w7):=Hh (by
     have h1:=HG6.out;unfold Grow at h1 ⊢;rw [HZ.out] at h1 ⊢
     exact Below.trans h1 HB7.out)
    have hkp:=HA7.out.1 b5 HB5.out.2 (fun e => Nat.lt_irrefl _ (Nat.lt_of_lt_of_le (HL0.out.2.1 b5 e) HB5.out.1));have r0:=(cell_keep hkp o5).trans q0;have r1:=(cell_keep hkp (o5 + 1)).trans q1;clear hkp q0 q1 q2 q3 HO7 HB7 HA7 HR6 HG6;go_wp2_with fail;go_roundg (nk - (k + 1))
    case rel => exact ⟨k + 1,v7',v8',v9,by omega,rfl,by go_num,rfl,rfl,rfl,Hh (by rw [HST7.out,HST8.out,HST9.out];exact HR7.out),HG7⟩
    case measure => omega
   have h3:(kd == 3) = false:=by simpa using hk3
   have h3':(kd != 3) = true:=by simpa using hk3
   have HS8:=Hh (HSN.out (fun e => hk3 e.2));rw [HS8.out,List.append_nil] at HST8
   by_cases hk5:kd = 5
   ·subst hk5
    have HS9:=Hh (HNN.out (fun e => e.2.2 rfl));rw [HS9.out,List.append_nil] at HST9;clear h3 h3' hk3;go_wp2_with fail;go_roundg (nk - (k + 1))
    case rel => exact ⟨k + 1,v7',v8,v9,by omega,rfl,by go_num,rfl,rfl,rfl,Hh (by rw [HST7.out,HST8.out,HST9.out];exact HR6.out),HG6⟩
    case measure => omega
   have h5':(kd != 5) = true:=by simpa using hk5
   have HS9:=Hh (HNY.out rfl hk3 hk5);rw [HS9.out] at HST9;clear hk3 hk5;have HC6:=Hh (HRV.out w6 HND0.out);have HVL:Hid ((valsR h0).length ≤ 2200000):=Hh (by unfold valsR;rw [List.length_append,List.length_map,HLI.out,HLD.out];omega)
   go_wp2_with fail;refine (HC6.out).mono ?_;rintro e w7 ⟨A7,c7,rfl,-,hv7,hg7⟩;have HR7:=Hh (HR6.out.grow hg7);have HG7:=Hh (HG6.out.trans hg7);have HD7:=Hh hv7.decs;have HZ7:=Hh HR7.out.size;clear hv7 hg7 HC6 HR6 HG6 q0 q1 q2 q3;generalize valsR h0 = vs at *;obtain ⟨lv,hlv⟩:∃ lv,vs.length = lv:=⟨_,rfl⟩;have HLV:=Hh hlv;rw [hlv] at HVL ⊢;clear hlv;go_wp2_with (at_builtin;refine wpList_more_decs rfl _ _ rfl z v9 R9 A7 lv c7 vs rfl HR7.out.2.2.1 rfl HLV.out HD7.out (by have h1:=HNL.out;have h2:=HVL.out;omega) HZ7.out ?_;intro v9' w8 HO8 HB8 HA8)
   have HR8:=Hh (HR7.out.put9 HO8.out HB8.out HA8.out)
   have HG8:Hid (Grow w2 w8):=Hh (by
    have h1:=HG7.out;unfold Grow at h1 ⊢;rw [HZ.out] at h1 ⊢
    exact Below.trans h1 HB8.out)
   go_roundg (nk - (k + 1))
   case rel => exact ⟨k + 1,v7',v8,v9',by omega,rfl,by go_num,rfl,rfl,rfl,Hh (by rw [HST7.out,HST8.out,HST9.out];exact HR8.out),HG8⟩
   case measure => omega
  ·obtain rfl:nk = k:=by omega
   have hnn:¬ ((nk:Nat):Int) < ((nk:Nat):Int):=by omega
   have HTA:=Hh (show fs.take nk = fs from List.take_of_length_le (by rw [HFN.out];exact Nat.le_refl _))
   rw [HTA.out] at HRW;have HNU:=Hh (fun h => num_docK (sh:=x.shp) (fs:=fs) HSB.out (by rw [HFN.out,← HNK.out,HKC.out]) HALR.out h)
   have HSZW:Hid (w.heap.size ≤ z):=Hh (by rw [← HZ.out];exact HG2.out.size)
   have HBW:=Hh (HB2.out.grow HGR.out);have HSW:=Hh (HS2.out.grow HGR.out);have HGW:=Hh (HG2.out.trans HGR.out);obtain ⟨A7,c7,e7,hc7,hN7⟩:=HRW.out.1.nodes;obtain ⟨A8,c8,e8,hc8,hN8⟩:=HRW.out.2.1.new;obtain ⟨A9,c9,e9,hc9,hN9⟩:=HRW.out.2.2.1.new;have HC7:=Hh hc7;have HN7:=Hh hN7;have HN8:=Hh hN8;have HN9:=Hh hN9;subst e7 e8 e9;clear HRW hc7 hc8 hc9 hN7 hN8 hN9 HS2 HB2;have HDK:Hid (docK (nest5 x.shp) fs = if (sgK fs).length = nk then [⟨3,x.shp,sgK fs,[]⟩] else if (nbK fs).length = nk then [leastN x.shp (nbK fs)] else nest5 x.shp :: flatK fs):=Hh (by rw [← HFN.out];rfl)
   rw [HFN.out] at HNU;have d1:=HBW.out.at1;generalize sgK fs = S8 at *;generalize nbK fs = S9 at *;obtain ⟨l7,hl7⟩:∃ l7,(nest5 x.shp :: flatK fs).length = l7:=⟨_,rfl⟩;have HL7:=Hh hl7;rw [hl7];rw [hl7] at HC7;obtain ⟨l8,hl8⟩:∃ l8,S8.length = l8:=⟨_,rfl⟩;have HL8:=Hh hl8;rw [hl8] at HDK ⊢;obtain ⟨l9,hl9⟩:∃ l9,S9.length = l9:=⟨_,rfl⟩;have HL9:=Hh hl9;rw [hl9] at HDK HNU ⊢;clear hl7 hl8 hl9
   by_cases h8:l8 = nk
   ·subst h8
    have HFE:Hid (formA ns = [⟨3,x.shp,S8,[]⟩]):=Hh (by rw [HDOC.out,HDK.out,if_pos rfl])
    have hgl:=grow_new wr (.cells #[] 3);have HE5:=Hh (ownI_lit00 (B:=wr.heap.size) wr (Nat.le_refl _));have HS5:=Hh (HSW.out.grow hgl);have HZ5:Hid (wr.heap.size ≤ (wr.alloc (.cells #[] 3)).heap.size):=Hh hgl.size;have d1':=(HBW.out.grow hgl).at1;have HGL:=Hh hgl;clear hgl;go_wp2_with (at_builtin;refine wpList_more_ints rfl _ _ rfl wr.heap.size (.slice (some ⟨wr.heap.size,0,none⟩) 0 0) [] A1 l1 c1 x.shp rfl HE5.out rfl HL1.out HS5.out (by simp;omega) HZ5.out ?_;intro v5 w5 HO5 HB5 HA5;obtain ⟨As,cA,e5,hcA,hNA⟩:=HO5.out.new;rw [List.nil_append,HL1.out] at e5;subst e5)
    go_ret;rw [HFE.out];have hg5:Grow wr w5:=Below.trans HGL.out HB5.out;have hgs:=(HGW.out.trans hg5);have hzw:w.heap.size ≤ wr.heap.size:=HGW.out.size;have hNA':NewN wr.heap.size As x.shp w5:=hNA;exact ⟨_,1,rfl,Nat.le_refl _,node_litT (z:=w.heap.size) (q:=⟨3,x.shp,S8,[]⟩) HL1.out HL8.out rfl hgs.size ⟨hNA'.keep fun b hb => ⟨⟨Nat.le_trans hzw hb.1,hb.2⟩,rfl⟩,HN8.out.keep fun b hb => ⟨⟨Nat.le_trans HSZW.out hb.1,Nat.lt_of_lt_of_le hb.2 hg5.size⟩,hg5.block b hb.2⟩,DecsT.nil_⟩,hgs.trans (grow_new _ _)⟩
   ·have h8':(((l8:Nat):Int) == ((nk:Nat):Int)) = false:=by simp;omega
    by_cases h9:l9 = nk
    ·subst h9
     have HFE:Hid (formA ns = [leastN x.shp S9]):=Hh (by rw [HDOC.out,HDK.out,if_neg h8,if_pos rfl])
     obtain ⟨hno,hin⟩:=HNU.out rfl;obtain ⟨q,hq⟩:∃ q,leastN x.shp S9 = q:=⟨_,rfl⟩;rw [hq] at hno HFE;have hrn:=rnumbers_any A1 l1 c1 x.shp A9 l9 c9 S9 wr HL1.out hs1 HSW.out HL9.out (by omega) hin HN9.out.decs
     rw [hno] at hrn;have HRN:=Hh hrn;clear hrn hno hin hq HNU HDK h8;go_wp2_with fail;refine (HRN.out).mono ?_;rintro e w5 ⟨hg5,v,rfl,B1,e1,B2,e2,B3,e3,rfl,m1,m2,m3⟩;have hnd:=NdT.lt ⟨m1,m2,m3⟩;have HND5:=Hh hnd;have HG5:=Hh hg5;obtain ⟨q1,hq1⟩:∃ q1,q.shp.length = q1:=⟨_,rfl⟩;obtain ⟨q2,hq2⟩:∃ q2,q.ints.length = q2:=⟨_,rfl⟩;obtain ⟨q3,hq3⟩:∃ q3,q.decs.length = q3:=⟨_,rfl⟩;have HQ1:=Hh hq1;have HQ2:=Hh hq2;have HQ3:=Hh hq3;rw [hq1,hq2,hq3];clear hq1 hq2 hq3 m1 m2 m3 hg5 hnd HRN d1;go_upto_region 24 with fail
     have hb0:=boxN_new w5 q.kind B1 q1 e1 B2 q2 e2 B3 q3 e3;have t0:=hb0.at0;have t1:=hb0.at1;have t2:=hb0.at2;have t3:=hb0.at3;have HGB:=Hh (grow_new w5 (.cells #[.int .i64 q.kind,.slice B1 q1 e1,.slice B2 q2 e2,.slice B3 q3 e3] 34));clear hb0;go_wp2;go_ret;rw [HFE.out];have hgs:=(HGW.out.trans HG5.out).trans HGB.out;have hzw:w.heap.size ≤ wr.heap.size:=HGW.out.size;have hnl:=node_litT (z:=w.heap.size) (e1:=e1) (e2:=e2) (e3:=e3) HQ1.out HQ2.out HQ3.out hgs.size (HND5.out.keep fun b hb => ⟨⟨Nat.le_trans hzw hb.1,Nat.lt_of_lt_of_le hb.2 HGB.out.size⟩,HGB.out.block b hb.2⟩);have hsz:(w5.alloc (.cells #[.int .i64 q.kind,.slice B1 q1 e1,.slice B2 q2 e2,.slice B3 q3 e3] 34)).heap.size = w5.heap.size + 1:=by simp
     rw [hsz] at hnl;exact ⟨_,1,rfl,Nat.le_refl _,hnl,hgs.trans (grow_new _ _)⟩
    ·have h9':(((l9:Nat):Int) == ((nk:Nat):Int)) = false:=by simp;omega
     have HFE:Hid (formA ns = nest5 x.shp :: flatK fs):=Hh (by rw [HDOC.out,HDK.out,if_neg h8,if_neg h9])
     clear h8 h9 d1;go_wp2;go_ret;rw [HFE.out];exact ⟨A7,c7,by rw [HL7.out];rfl,by rw [HL7.out];exact HC7.out,HN7.out.keep fun b hb => ⟨⟨Nat.le_trans HSZW.out hb.1,hb.2⟩,rfl⟩,HGW.out⟩
open Go.RowKit Go.Lib
theorem depth_pos {ns:List Nd} (h:rightA ns = true):1 ≤ (ws ns).d:=by
 obtain ⟨s,hs⟩:=right_some h;obtain ⟨n,l',t,rfl,hok,ht,rfl,hn,hi⟩:=right_parts hs;rw [ws_some hs];simp only [top];omega
theorem RCopyP.later {F:List Nd} {w w1 w':World} {A':Option Addr} {c':Nat} (hg:Grow w w1) (hc:F.length ≤ c') (hN:NodesT (fun b => w1.heap.size ≤ b ∧ b < w'.heap.size) w' A' F) (hg':Grow w1 w'):RCopyP F w (.returned (.slice A' F.length c')) w' :=
 ⟨A',c',rfl,hc,hN.keep fun b hb => ⟨⟨Nat.le_trans hg.size hb.1,hb.2⟩,rfl⟩,hg.trans hg'⟩
theorem rform_any (d:Nat):∀ (A:Option Addr) (n c:Nat) (ns:List Nd) (w:World),ns.length = n → n ≤ c → Fine ns → rightA ns = true → (ws ns).d ≤ d → Nodes w w.heap.size A ns →
  Calls Tryz.prog 105 #[.slice A n c] w (RCopyP (formA ns) w):=by
 induction d with
 | zero => intro A n c ns w _ _ _ hr hd _;have:=depth_pos hr;omega
 | succ d ih =>
  intro A n c ns w hn hnc hf hr hd hns
  by_cases hnest:(ns.getD 0 nd0).kind = 5 ∧ kidsA ns ≠ []
  ·exact rform_nest d ih A n c ns w hn hnc hf hr hd hns hnest.1 hnest.2
  have HNX:=Hh hnest;have IH:=Hh ih;clear ih hnest;have hn6:n ≤ 1100000:=by rw [← hn];exact hf.1
  have hnp:1 ≤ n:=by rw [← hn];exact List.length_pos_iff.2 (right_ne hr)
  have HN:=Hh hn;have HF:=Hh hf;have HR:=Hh hr;have HD:=Hh hd;have HNS:=Hh hns;have HS:=Hh (fun h => form_sign hr hf h);have HL:=Hh (fun h3 h5 => form_leaf hr hf h3 h5);have HO:=Hh (fun h5 hk => form_none hr hf h5 hk);have HE:=Hh (fun h5 => form_nest hr hf h5);have HPL:=Hh (fun h => (kids_plain hr h).2.1);obtain ⟨b,off,rfl,hb,hat⟩:=hns (by omega)
  obtain ⟨A1,c1,A2,c2,A3,c3,p0,p1,p2,p3,hnd⟩:=hat 0 (by omega)
  rw [Nat.zero_mul,Nat.add_zero] at p0 p1 p2 p3;have hxm:ns.getD 0 nd0 ∈ ns:=by
   rw [show ns.getD 0 nd0 = ns[0]'(by omega) by simp [List.getD,show 0 < ns.length by omega]]
   exact List.getElem_mem _
  have HFX:=Hh (hf.2.1 _ hxm);have HVX:=Hh (hf.2.2 _ hxm);have HND:=Hh hnd;clear hn hf hr hd hns hat hnd hb hxm;generalize hx:ns.getD 0 nd0 = x at *;have HX:=Hh hx;clear hx;have hbx:=boxN_new w x.kind A1 x.shp.length c1 A2 x.ints.length c2 A3 x.decs.length c3;have hg1:=grow_new w (.cells #[.int .i64 x.kind,.slice A1 x.shp.length c1,.slice A2 x.ints.length c2,.slice A3 x.decs.length c3] 34);have HBX:=Hh hbx;have HG1:=Hh hg1;have HC1:=Hh (rcopy_any (some ⟨b,off,none⟩) n c ns _ HN.out hn6 HF.out.2.1 (HNS.out.grow hg1));have HKD:=Hh (rkids_any (some ⟨b,off,none⟩) n c ns _ HN.out hn6 hnc HF.out.2.1 (HNS.out.grow hg1));clear hbx hg1
  by_cases h3:x.kind = 3
  ·have HFE:=Hh (HS.out h3)
   rw [h3] at p0 HBX HG1 HC1;generalize x.shp.length = l1 at *;generalize x.ints.length = l2 at *;generalize x.decs.length = l3 at *;clear HS HL HO HE HPL HKD
   go_enter Tryz.func105,Tryz.ntmps105
   go_wp2_with fail;refine (HC1.out).mono ?_;rintro e w2 ⟨A',c',rfl,hc',hN,hg⟩;go_wp2;go_ret;have h:=RCopyP.later HG1.out hc' hN hg;rw [HFE.out];exact h
  ·have h3':(x.kind == 3) = false:=by simpa using h3
   -- WAYS
   by_cases h5:x.kind = 5
   rotate_left
   ·have h5':(x.kind != 5) = true:=by simpa using h5
    have HLF:=Hh (HL.out h3 h5);have HK0:=Hh (HPL.out h5);clear HS HL HO HPL;have HRV:=Hh (fun W h => rvalues_any x A1 A2 A3 c1 c2 c3 W HFX.out HVX.out h);obtain ⟨hfe,hno,hin,hvl⟩:=HLF.out;have HFE:=Hh hfe;obtain ⟨vs,hvs⟩:∃ vs,valsR x = vs:=⟨_,rfl⟩;rw [hvs] at hno hin hvl HRV HFE;obtain ⟨nv,hnv⟩:∃ nv,vs.length = nv:=⟨_,rfl⟩;rw [hnv] at hvl;obtain ⟨q,hq⟩:∃ q,leastN x.shp vs = q:=⟨_,rfl⟩;rw [hq] at hno HFE;have hs1:=HFX.out.2.1
    have HRN:Hid (∀ AV cV W,Nums .i64 W W.heap.size A1 x.shp → Decs W W.heap.size AV vs → Calls Tryz.prog 99 #[.slice A1 x.shp.length c1,.slice AV nv cV] W (OneP (fun b => W.heap.size ≤ b) (some q) W)):=Hh (fun AV cV W h1 h2 => by
     have h:=rnumbers_any A1 x.shp.length c1 x.shp AV nv cV vs W rfl hs1 h1 hnv hvl hin h2;rw [hno] at h
     exact h)
    have HNV:=Hh hnv;clear hfe hno hin hvl hvs hq hs1 HLF hnv;generalize x.kind = kd at *;obtain ⟨l1,hl1⟩:∃ l1,x.shp.length = l1:=⟨_,rfl⟩;obtain ⟨l2,hl2⟩:∃ l2,x.ints.length = l2:=⟨_,rfl⟩;obtain ⟨l3,hl3⟩:∃ l3,x.decs.length = l3:=⟨_,rfl⟩;rw [hl1] at p1 HBX HG1 HKD HRV HRN;rw [hl2] at p2 HBX HG1 HKD HRV;rw [hl3] at p3 HBX HG1 HKD HRV;clear hl1 hl2 hl3
    go_enter Tryz.func105,Tryz.ntmps105
    go_wp2_with fail;refine (HKD.out).mono ?_;rintro e w2 ⟨AK,cK,rfl,-,-,-,hg2⟩;have HB2:=Hh (HBX.out.grow hg2);have HG2:=Hh (HG1.out.trans hg2);have HND2:=Hh (HND.out.grow HG2.out);obtain ⟨nb,hnb⟩:∃ nb,w.heap.size = nb:=⟨_,rfl⟩;have HNB:=Hh hnb;have d0:=HB2.out.at0;rw [hnb] at HB2 d0;clear hg2 HKD HBX HG1 IH p0 p1 p2 p3;rw [HK0.out];obtain ⟨z,hz⟩:∃ z,w2.heap.size = z:=⟨_,rfl⟩;have HZW:=Hh hz;clear hz;go_wp2;clear hnb d0;refine wp_region_R ((Below z)) (n:=11) rfl (by kernel_rfl) ?_
    intro W0 hW0e hW0;have HGW0:=Hh hW0;have HZ0:Hid (W0.heap.size = z):=Hh (by rw [hW0e];exact HZW.out)
    have HB9:=Hh (HB2.out.grow hW0);have HBK:Hid (∀ wg,Below z W0 wg → BoxN wg nb kd A1 l1 c1 A2 l2 c2 A3 l3 c3):=Hh (fun wg h => HB9.out.grow (grow_z HZ0.out h));have b0:∀ wg,Below z W0 wg → wg.cell? ⟨nb,0,none⟩ = some (.int .i64 kd):=fun wg h => (HBK.out wg h).at0;have b1:∀ wg,Below z W0 wg → wg.cell? ⟨nb,1,none⟩ = some (.slice A1 l1 c1):=fun wg h => (HBK.out wg h).at1;have b2:∀ wg,Below z W0 wg → wg.cell? ⟨nb,2,none⟩ = some (.slice A2 l2 c2):=fun wg h => (HBK.out wg h).at2;have b3:∀ wg,Below z W0 wg → wg.cell? ⟨nb,3,none⟩ = some (.slice A3 l3 c3):=fun wg h => (HBK.out wg h).at3;have HNW:=Hh (HND2.out.grow HGW0.out);clear hW0e;refine wpR_take (belowOrd z) (i:=0) (v:=?vf1) rfl (by kernel_rfl) (by kernel_rfl) (by kernel_rfl) (fun _ _ _ h => h) (by rfl) ?hf1 ?rf1
    case hf1 => (intro wg hSw;go_simp <;> with_reducible rfl)
    simp only [Act.put,List.setIfInBounds_toArray,List.set_cons_zero,List.set_cons_succ];refine wpR_take (belowOrd z) (i:=1) (v:=?vf2) rfl (by kernel_rfl) (by kernel_rfl) (by kernel_rfl) (fun _ _ _ h => h) (by rfl) ?hf2 ?rf2
    case hf2 => (intro wg hSw;go_simp <;> with_reducible rfl)
    simp only [Act.put,List.setIfInBounds_toArray,List.set_cons_zero,List.set_cons_succ];refine wpR_take (belowOrd z) (i:=2) (v:=?vf3) rfl (by kernel_rfl) (by kernel_rfl) (by kernel_rfl) (fun _ _ _ h => h) (by rfl) ?hf3 ?rf3
    case hf3 => (intro wg hSw;go_simp <;> with_reducible rfl)
    simp only [Act.put,List.setIfInBounds_toArray,List.set_cons_zero,List.set_cons_succ];refine wpR_two (i:=3) (j:=8) (by kernel_rfl) ?_ ?_
    ·refine wpR_op (i:=3) rfl (by rfl) (fun K hK => ?_)
     go_simp;refine (HRV.out W0 (HNW.out.grow (grow_z HZ0.out (((belowOrd z)).refl W0)))).mono ?_;rintro e wM3 ⟨AV,cV,rfl,-,hv3,hN3⟩;rw [HNV.out];have hM3:Below z W0 wM3:=Below.mono hN3 (by rw [← HZ0.out];exact ((((belowOrd z)).refl W0)).size)
     have hC3:Decs wM3 wM3.heap.size AV vs:=hv3.decs;have HS3:=Hh hN3.size;clear hv3;refine hK.out _ _ hM3 ?_;clear hK K
     try simp only [Act.put,List.setIfInBounds_toArray,List.set_cons_zero,List.set_cons_succ]
     refine wpR_two (i:=4) (j:=8) (by kernel_rfl) ?_ ?_
     ·refine wpR_op (i:=4) rfl (by rfl) (fun K hK => ?_)
      go_simp;obtain ⟨zc,hzc⟩:∃ zc,(wM3).heap.size = zc:=⟨_,rfl⟩;have HZC:=Hh hzc;have HZL:Hid (z ≤ zc):=Hh (by rw [← HZ0.out,← hzc];exact ((((belowOrd z)).trans (((belowOrd z)).refl W0) hM3)).size)
      refine (HRN.out AV cV wM3 ((HNW.out.grow (grow_z HZ0.out (((belowOrd z)).trans (((belowOrd z)).refl W0) hM3))).1) hC3).mono ?_;clear hzc;rintro e wM4 ⟨hN4,v,rfl,B1,e1,B2,e2,B3,e3,rfl,m1,m2,m3⟩;have hM4:Below z wM3 wM4:=Below.mono hN4 (by rw [HZC.out];exact HZL.out)
      have hC4:NdT (fun b => zc ≤ b ∧ b < wM4.heap.size) wM4 B1 B2 B3 q:=by
       rw [HZC.out] at m1 m2 m3;exact NdT.lt ⟨m1,m2,m3⟩
      obtain ⟨q1,hq1⟩:∃ q1,q.shp.length = q1:=⟨_,rfl⟩;obtain ⟨q2,hq2⟩:∃ q2,q.ints.length = q2:=⟨_,rfl⟩;obtain ⟨q3,hq3⟩:∃ q3,q.decs.length = q3:=⟨_,rfl⟩;have HQ1:=Hh hq1;have HQ2:=Hh hq2;have HQ3:=Hh hq3;rw [hq1,hq2,hq3];clear hq1 hq2 hq3 m1 m2 m3;refine hK.out _ _ hM4 ?_;clear hK K
      try simp only [Act.put,List.setIfInBounds_toArray,List.set_cons_zero,List.set_cons_succ]
      refine wpR_take (belowOrd z) (i:=5) (v:=?vf4) rfl (by kernel_rfl) (by kernel_rfl) (by kernel_rfl) (fun _ _ _ h => h) (by rfl) ?hf4 ?rf4
      case hf4 => (intro wg hSw;go_simp <;> with_reducible rfl)
      simp only [Act.put,List.setIfInBounds_toArray,List.set_cons_zero,List.set_cons_succ];refine wpR_take (belowOrd z) (i:=6) (v:=?vf5) rfl (by kernel_rfl) (by kernel_rfl) (by kernel_rfl) (fun _ _ _ h => h) (by rfl) ?hf5 ?rf5
      case hf5 => (intro wg hSw;go_simp <;> with_reducible rfl)
      simp only [Act.put,List.setIfInBounds_toArray,List.set_cons_zero,List.set_cons_succ];refine wpR_take (belowOrd z) (i:=7) (v:=?vf6) rfl (by kernel_rfl) (by kernel_rfl) (by kernel_rfl) (fun _ _ _ h => h) (by rfl) ?hf6 ?rf6
      case hf6 => (intro wg hSw;go_simp <;> with_reducible rfl)
      simp only [Act.put,List.setIfInBounds_toArray,List.set_cons_zero,List.set_cons_succ];refine wpR_one (i:=8) (by kernel_rfl) ?_
      refine wpR_op (i:=8) rfl (by rfl) (fun K hK => ?_)
      go_simp;refine hK.out _ _ (Below.mono (grow_new _ _) (by rw [← HZ0.out];exact ((((belowOrd z)).trans (((belowOrd z)).trans (((belowOrd z)).refl W0) hM3) hM4)).size)) ?_
      clear hK K
      try simp only [Act.put,List.setIfInBounds_toArray,List.set_cons_zero,List.set_cons_succ]
      obtain ⟨tb,htb⟩:∃ tb,(wM4).heap.size = tb:=⟨_,rfl⟩;have HTB:=Hh htb;have hbs:=boxN_new wM4 0 none 0 0 none 0 0 none 0 0;have hgs:=grow_new wM4 (.cells #[.int .i64 0,.slice none 0 0,.slice none 0 0,.slice none 0 0] 34);have hsz:(World.alloc wM4 (.cells #[.int .i64 0,.slice none 0 0,.slice none 0 0,.slice none 0 0] 34)).heap.size = tb + 1:=by rw [← htb];simp
      rw [htb] at hbs ⊢;have HTL:Hid (z ≤ tb):=Hh (by rw [← HZ0.out,← htb];exact ((((belowOrd z)).trans (((belowOrd z)).trans (((belowOrd z)).refl W0) hM3) hM4)).size)
      generalize hwM8:World.alloc wM4 (.cells #[.int .i64 0,.slice none 0 0,.slice none 0 0,.slice none 0 0] 34) = wM8 at *;have hC8:BoxN wM8 tb 0 none 0 0 none 0 0 none 0 0:=hbs;have hN8:Grow wM4 wM8:=hgs;have hM8:Below z wM4 wM8:=Below.mono hgs (by rw [← HZ0.out];exact ((((belowOrd z)).trans (((belowOrd z)).trans (((belowOrd z)).refl W0) hM3) hM4)).size)
      have HZ8:=Hh hsz;clear hwM8 htb hbs hgs hsz;refine wpR_one (i:=9) (by kernel_rfl) ?_
      refine wpR_op (i:=9) rfl (by rfl) (fun K hK => ?_)
      have HBB:=Hh hC8;have f0:=HBB.out.froz 0;have f1:=HBB.out.froz 1;have f2:=HBB.out.froz 2;have f3:=HBB.out.froz 3;have d0:=HBB.out.at0;have d1:=HBB.out.at1;have d2:=HBB.out.at2;have d3:=HBB.out.at3;go_simp;refine hK.out _ _ (below_put4 HTL.out _ _ _ _) ?_;clear hK K
      try simp only [Act.put,List.setIfInBounds_toArray,List.set_cons_zero,List.set_cons_succ]
      have HB9':=Hh (HBB.out.store q.kind B1 B2 B3 q1 e1 q2 e2 q3 e3);have HG9':Hid (Grow W0 ((((World.setCell wM8 ⟨tb,0,none⟩ (.int .i64 q.kind)).setCell ⟨tb,1,none⟩ (.slice B1 q1 e1)).setCell ⟨tb,2,none⟩ (.slice B2 q2 e2)).setCell ⟨tb,3,none⟩ (.slice B3 q3 e3))):=Hh (grow_z HZ0.out (Below.trans (((belowOrd z)).trans (((belowOrd z)).trans (((belowOrd z)).trans (((belowOrd z)).refl W0) hM3) hM4) hM8) (below_put4 HTL.out _ _ _ _)));have hM9':=below_put4 (w:=wM8) HTL.out (.int .i64 q.kind) (.slice B1 q1 e1) (.slice B2 q2 e2) (.slice B3 q3 e3);have HD9':Hid (NdT (fun b => z ≤ b) ((((World.setCell wM8 ⟨tb,0,none⟩ (.int .i64 q.kind)).setCell ⟨tb,1,none⟩ (.slice B1 q1 e1)).setCell ⟨tb,2,none⟩ (.slice B2 q2 e2)).setCell ⟨tb,3,none⟩ (.slice B3 q3 e3)) B1 B2 B3 q):=Hh (((hC4.grow hN8)).keep fun b hb => ⟨Nat.le_trans HZL.out hb.1,other4 (by have h1:=hb.1;have h2:=hb.2;have h4:=HTB.out;have h5:=HZ8.out;have h6:=HZC.out;have h7:=HS3.out;omega) _ _ _ _⟩)
      clear f0 f1 f2 f3 d0 d1 d2 d3;generalize hw9:World.setCell (World.setCell (World.setCell (World.setCell wM8 ⟨tb,0,none⟩ (.int .i64 q.kind)) ⟨tb,1,none⟩ (.slice B1 q1 e1)) ⟨tb,2,none⟩ (.slice B2 q2 e2)) ⟨tb,3,none⟩ (.slice B3 q3 e3) = wM9 at *;have hM9:=hM9';clear hw9 hM9';refine wpR_take (belowOrd z) (i:=10) (v:=?vf7) rfl (by kernel_rfl) (by kernel_rfl) (by kernel_rfl) (fun _ _ _ h => h) (by rfl) ?hf7 ?rf7
      case hf7 => (intro wg hSw;go_simp <;> with_reducible rfl)
      simp only [Act.put,List.setIfInBounds_toArray,List.set_cons_zero,List.set_cons_succ];refine wpR_done (by kernel_rfl) ?_
      have HGT:=Hh (HG2.out.trans (HGW0.out.trans HG9'.out));have t0:=HB9'.out.at0;have t1:=HB9'.out.at1;have t2:=HB9'.out.at2;have t3:=HB9'.out.at3;clear b0 b1 b2 b3 HBK;go_wp2;go_ret;have HZT:=HGT.out.size;have hnl:=node_litT (z:=w.heap.size) (e1:=e1) (e2:=e2) (e3:=e3) HQ1.out HQ2.out HQ3.out HZT (HD9'.out.lt.keep fun b hb => ⟨⟨by have h1:=hb.1;have h2:=HG2.out.size;have h3:=HZW.out;omega,hb.2⟩,rfl⟩)
      rw [HFE.out];exact ⟨_,1,rfl,Nat.le_refl _,hnl,HGT.out.trans (grow_new _ _)⟩
     ·refine wpR_op (i:=8) rfl (by rfl) (fun K hK => ?_)
      go_simp;refine hK.out _ _ (Below.mono (grow_new _ _) (by rw [← HZ0.out];exact ((((belowOrd z)).trans (((belowOrd z)).refl W0) hM3)).size)) ?_
      clear hK K
      try simp only [Act.put,List.setIfInBounds_toArray,List.set_cons_zero,List.set_cons_succ]
      obtain ⟨tb,htb⟩:∃ tb,(wM3).heap.size = tb:=⟨_,rfl⟩;have HTB:=Hh htb;have hbs:=boxN_new wM3 0 none 0 0 none 0 0 none 0 0;have hgs:=grow_new wM3 (.cells #[.int .i64 0,.slice none 0 0,.slice none 0 0,.slice none 0 0] 34);have hsz:(World.alloc wM3 (.cells #[.int .i64 0,.slice none 0 0,.slice none 0 0,.slice none 0 0] 34)).heap.size = tb + 1:=by rw [← htb];simp
      rw [htb] at hbs ⊢;have HTL:Hid (z ≤ tb):=Hh (by rw [← HZ0.out,← htb];exact ((((belowOrd z)).trans (((belowOrd z)).refl W0) hM3)).size)
      generalize hwM8:World.alloc wM3 (.cells #[.int .i64 0,.slice none 0 0,.slice none 0 0,.slice none 0 0] 34) = wM8 at *;have hC8:BoxN wM8 tb 0 none 0 0 none 0 0 none 0 0:=hbs;have hN8:Grow wM3 wM8:=hgs;have hM8:Below z wM3 wM8:=Below.mono hgs (by rw [← HZ0.out];exact ((((belowOrd z)).trans (((belowOrd z)).refl W0) hM3)).size)
      have HZ8:=Hh hsz;clear hwM8 htb hbs hgs hsz;refine wpR_one (i:=4) (by kernel_rfl) ?_
      refine wpR_op (i:=4) rfl (by rfl) (fun K hK => ?_)
      go_simp;obtain ⟨zc,hzc⟩:∃ zc,(wM8).heap.size = zc:=⟨_,rfl⟩;have HZC:=Hh hzc;have HZL:Hid (z ≤ zc):=Hh (by rw [← HZ0.out,← hzc];exact ((((belowOrd z)).trans (((belowOrd z)).trans (((belowOrd z)).refl W0) hM3) hM8)).size)
      refine (HRN.out AV cV wM8 ((HNW.out.grow (grow_z HZ0.out (((belowOrd z)).trans (((belowOrd z)).trans (((belowOrd z)).refl W0) hM3) hM8))).1) (hC3.grow hN8)).mono ?_;clear hzc;rintro e wM4 ⟨hN4,v,rfl,B1,e1,B2,e2,B3,e3,rfl,m1,m2,m3⟩;have hM4:Below z wM8 wM4:=Below.mono hN4 (by rw [HZC.out];exact HZL.out)
      have hC4:NdT (fun b => zc ≤ b ∧ b < wM4.heap.size) wM4 B1 B2 B3 q:=by
       rw [HZC.out] at m1 m2 m3;exact NdT.lt ⟨m1,m2,m3⟩
      obtain ⟨q1,hq1⟩:∃ q1,q.shp.length = q1:=⟨_,rfl⟩;obtain ⟨q2,hq2⟩:∃ q2,q.ints.length = q2:=⟨_,rfl⟩;obtain ⟨q3,hq3⟩:∃ q3,q.decs.length = q3:=⟨_,rfl⟩;have HQ1:=Hh hq1;have HQ2:=Hh hq2;have HQ3:=Hh hq3;rw [hq1,hq2,hq3];clear hq1 hq2 hq3 m1 m2 m3;refine hK.out _ _ hM4 ?_;clear hK K
      try simp only [Act.put,List.setIfInBounds_toArray,List.set_cons_zero,List.set_cons_succ]
      refine wpR_take (belowOrd z) (i:=5) (v:=?vf8) rfl (by kernel_rfl) (by kernel_rfl) (by kernel_rfl) (fun _ _ _ h => h) (by rfl) ?hf8 ?rf8
      case hf8 => (intro wg hSw;go_simp <;> with_reducible rfl)
      simp only [Act.put,List.setIfInBounds_toArray,List.set_cons_zero,List.set_cons_succ];refine wpR_take (belowOrd z) (i:=6) (v:=?vf9) rfl (by kernel_rfl) (by kernel_rfl) (by kernel_rfl) (fun _ _ _ h => h) (by rfl) ?hf9 ?rf9
      case hf9 => (intro wg hSw;go_simp <;> with_reducible rfl)
      simp only [Act.put,List.setIfInBounds_toArray,List.set_cons_zero,List.set_cons_succ];refine wpR_take (belowOrd z) (i:=7) (v:=?vf10) rfl (by kernel_rfl) (by kernel_rfl) (by kernel_rfl) (fun _ _ _ h => h) (by rfl) ?hf10 ?rf10
      case hf10 => (intro wg hSw;go_simp <;> with_reducible rfl)
      simp only [Act.put,List.setIfInBounds_toArray,List.set_cons_zero,List.set_cons_succ];refine wpR_one (i:=9) (by kernel_rfl) ?_
      refine wpR_op (i:=9) rfl (by rfl) (fun K hK => ?_)
      have HBB:=Hh (hC8.grow hN4);have f0:=HBB.out.froz 0;have f1:=HBB.out.froz 1;have f2:=HBB.out.froz 2;have f3:=HBB.out.froz 3;have d0:=HBB.out.at0;have d1:=HBB.out.at1;have d2:=HBB.out.at2;have d3:=HBB.out.at3;go_simp;refine hK.out _ _ (below_put4 HTL.out _ _ _ _) ?_;clear hK K
      try simp only [Act.put,List.setIfInBounds_toArray,List.set_cons_zero,List.set_cons_succ]
      have HB9':=Hh (HBB.out.store q.kind B1 B2 B3 q1 e1 q2 e2 q3 e3);have HG9':Hid (Grow W0 ((((World.setCell wM4 ⟨tb,0,none⟩ (.int .i64 q.kind)).setCell ⟨tb,1,none⟩ (.slice B1 q1 e1)).setCell ⟨tb,2,none⟩ (.slice B2 q2 e2)).setCell ⟨tb,3,none⟩ (.slice B3 q3 e3))):=Hh (grow_z HZ0.out (Below.trans (((belowOrd z)).trans (((belowOrd z)).trans (((belowOrd z)).trans (((belowOrd z)).refl W0) hM3) hM8) hM4) (below_put4 HTL.out _ _ _ _)));have hM9':=below_put4 (w:=wM4) HTL.out (.int .i64 q.kind) (.slice B1 q1 e1) (.slice B2 q2 e2) (.slice B3 q3 e3);have HD9':Hid (NdT (fun b => z ≤ b) ((((World.setCell wM4 ⟨tb,0,none⟩ (.int .i64 q.kind)).setCell ⟨tb,1,none⟩ (.slice B1 q1 e1)).setCell ⟨tb,2,none⟩ (.slice B2 q2 e2)).setCell ⟨tb,3,none⟩ (.slice B3 q3 e3)) B1 B2 B3 q):=Hh ((hC4).keep fun b hb => ⟨Nat.le_trans HZL.out hb.1,other4 (by have h1:=hb.1;have h2:=hb.2;have h4:=HTB.out;have h5:=HZ8.out;have h6:=HZC.out;have h7:=HS3.out;omega) _ _ _ _⟩)
      clear f0 f1 f2 f3 d0 d1 d2 d3;generalize hw9:World.setCell (World.setCell (World.setCell (World.setCell wM4 ⟨tb,0,none⟩ (.int .i64 q.kind)) ⟨tb,1,none⟩ (.slice B1 q1 e1)) ⟨tb,2,none⟩ (.slice B2 q2 e2)) ⟨tb,3,none⟩ (.slice B3 q3 e3) = wM9 at *;have hM9:=hM9';clear hw9 hM9';refine wpR_take (belowOrd z) (i:=10) (v:=?vf11) rfl (by kernel_rfl) (by kernel_rfl) (by kernel_rfl) (fun _ _ _ h => h) (by rfl) ?hf11 ?rf11
      case hf11 => (intro wg hSw;go_simp <;> with_reducible rfl)
      simp only [Act.put,List.setIfInBounds_toArray,List.set_cons_zero,List.set_cons_succ];refine wpR_done (by kernel_rfl) ?_
      have HGT:=Hh (HG2.out.trans (HGW0.out.trans HG9'.out));have t0:=HB9'.out.at0;have t1:=HB9'.out.at1;have t2:=HB9'.out.at2;have t3:=HB9'.out.at3;clear b0 b1 b2 b3 HBK;go_wp2;go_ret;have HZT:=HGT.out.size;have hnl:=node_litT (z:=w.heap.size) (e1:=e1) (e2:=e2) (e3:=e3) HQ1.out HQ2.out HQ3.out HZT (HD9'.out.lt.keep fun b hb => ⟨⟨by have h1:=hb.1;have h2:=HG2.out.size;have h3:=HZW.out;omega,hb.2⟩,rfl⟩)
      rw [HFE.out];exact ⟨_,1,rfl,Nat.le_refl _,hnl,HGT.out.trans (grow_new _ _)⟩
    ·refine wpR_op (i:=8) rfl (by rfl) (fun K hK => ?_)
     go_simp;refine hK.out _ _ (Below.mono (grow_new _ _) (by rw [← HZ0.out];exact ((((belowOrd z)).refl W0)).size)) ?_
     clear hK K
     try simp only [Act.put,List.setIfInBounds_toArray,List.set_cons_zero,List.set_cons_succ]
     obtain ⟨tb,htb⟩:∃ tb,(W0).heap.size = tb:=⟨_,rfl⟩;have HTB:=Hh htb;have hbs:=boxN_new W0 0 none 0 0 none 0 0 none 0 0;have hgs:=grow_new W0 (.cells #[.int .i64 0,.slice none 0 0,.slice none 0 0,.slice none 0 0] 34);have hsz:(World.alloc W0 (.cells #[.int .i64 0,.slice none 0 0,.slice none 0 0,.slice none 0 0] 34)).heap.size = tb + 1:=by rw [← htb];simp
     rw [htb] at hbs ⊢;have HTL:Hid (z ≤ tb):=Hh (by rw [← HZ0.out,← htb];exact ((((belowOrd z)).refl W0)).size)
     generalize hwM8:World.alloc W0 (.cells #[.int .i64 0,.slice none 0 0,.slice none 0 0,.slice none 0 0] 34) = wM8 at *;have hC8:BoxN wM8 tb 0 none 0 0 none 0 0 none 0 0:=hbs;have hN8:Grow W0 wM8:=hgs;have hM8:Below z W0 wM8:=Below.mono hgs (by rw [← HZ0.out];exact ((((belowOrd z)).refl W0)).size)
     have HZ8:=Hh hsz;clear hwM8 htb hbs hgs hsz;refine wpR_one (i:=3) (by kernel_rfl) ?_
     refine wpR_op (i:=3) rfl (by rfl) (fun K hK => ?_)
     go_simp;refine (HRV.out wM8 (HNW.out.grow (grow_z HZ0.out (((belowOrd z)).trans (((belowOrd z)).refl W0) hM8)))).mono ?_;rintro e wM3 ⟨AV,cV,rfl,-,hv3,hN3⟩;rw [HNV.out];have hM3:Below z wM8 wM3:=Below.mono hN3 (by rw [← HZ0.out];exact ((((belowOrd z)).trans (((belowOrd z)).refl W0) hM8)).size)
     have hC3:Decs wM3 wM3.heap.size AV vs:=hv3.decs;have HS3:=Hh hN3.size;clear hv3;refine hK.out _ _ hM3 ?_;clear hK K
     try simp only [Act.put,List.setIfInBounds_toArray,List.set_cons_zero,List.set_cons_succ]
     refine wpR_one (i:=4) (by kernel_rfl) ?_
     refine wpR_op (i:=4) rfl (by rfl) (fun K hK => ?_)
     go_simp;obtain ⟨zc,hzc⟩:∃ zc,(wM3).heap.size = zc:=⟨_,rfl⟩;have HZC:=Hh hzc;have HZL:Hid (z ≤ zc):=Hh (by rw [← HZ0.out,← hzc];exact ((((belowOrd z)).trans (((belowOrd z)).trans (((belowOrd z)).refl W0) hM8) hM3)).size)
     refine (HRN.out AV cV wM3 ((HNW.out.grow (grow_z HZ0.out (((belowOrd z)).trans (((belowOrd z)).trans (((belowOrd z)).refl W0) hM8) hM3))).1) hC3).mono ?_;clear hzc;rintro e wM4 ⟨hN4,v,rfl,B1,e1,B2,e2,B3,e3,rfl,m1,m2,m3⟩;have hM4:Below z wM3 wM4:=Below.mono hN4 (by rw [HZC.out];exact HZL.out)
     have hC4:NdT (fun b => zc ≤ b ∧ b < wM4.heap.size) wM4 B1 B2 B3 q:=by
      rw [HZC.out] at m1 m2 m3;exact NdT.lt ⟨m1,m2,m3⟩
     obtain ⟨q1,hq1⟩:∃ q1,q.shp.length = q1:=⟨_,rfl⟩;obtain ⟨q2,hq2⟩:∃ q2,q.ints.length = q2:=⟨_,rfl⟩;obtain ⟨q3,hq3⟩:∃ q3,q.decs.length = q3:=⟨_,rfl⟩;have HQ1:=Hh hq1;have HQ2:=Hh hq2;have HQ3:=Hh hq3;rw [hq1,hq2,hq3];clear hq1 hq2 hq3 m1 m2 m3;refine hK.out _ _ hM4 ?_;clear hK K
     try simp only [Act.put,List.setIfInBounds_toArray,List.set_cons_zero,List.set_cons_succ]
     refine wpR_take (belowOrd z) (i:=5) (v:=?vf12) rfl (by kernel_rfl) (by kernel_rfl) (by kernel_rfl) (fun _ _ _ h => h) (by rfl) ?hf12 ?rf12
     case hf12 => (intro wg hSw;go_simp <;> with_reducible rfl)
     simp only [Act.put,List.setIfInBounds_toArray,List.set_cons_zero,List.set_cons_succ];refine wpR_take (belowOrd z) (i:=6) (v:=?vf13) rfl (by kernel_rfl) (by kernel_rfl) (by kernel_rfl) (fun _ _ _ h => h) (by rfl) ?hf13 ?rf13
     case hf13 => (intro wg hSw;go_simp <;> with_reducible rfl)
     simp only [Act.put,List.setIfInBounds_toArray,List.set_cons_zero,List.set_cons_succ];refine wpR_take (belowOrd z) (i:=7) (v:=?vf14) rfl (by kernel_rfl) (by kernel_rfl) (by kernel_rfl) (fun _ _ _ h => h) (by rfl) ?hf14 ?rf14
     case hf14 => (intro wg hSw;go_simp <;> with_reducible rfl)
     simp only [Act.put,List.setIfInBounds_toArray,List.set_cons_zero,List.set_cons_succ];refine wpR_one (i:=9) (by kernel_rfl) ?_
     refine wpR_op (i:=9) rfl (by rfl) (fun K hK => ?_)
     have HBB:=Hh ((hC8.grow hN3).grow hN4);have f0:=HBB.out.froz 0;have f1:=HBB.out.froz 1;have f2:=HBB.out.froz 2;have f3:=HBB.out.froz 3;have d0:=HBB.out.at0;have d1:=HBB.out.at1;have d2:=HBB.out.at2;have d3:=HBB.out.at3;go_simp;refine hK.out _ _ (below_put4 HTL.out _ _ _ _) ?_;clear hK K
     try simp only [Act.put,List.setIfInBounds_toArray,List.set_cons_zero,List.set_cons_succ]
     have HB9':=Hh (HBB.out.store q.kind B1 B2 B3 q1 e1 q2 e2 q3 e3);have HG9':Hid (Grow W0 ((((World.setCell wM4 ⟨tb,0,none⟩ (.int .i64 q.kind)).setCell ⟨tb,1,none⟩ (.slice B1 q1 e1)).setCell ⟨tb,2,none⟩ (.slice B2 q2 e2)).setCell ⟨tb,3,none⟩ (.slice B3 q3 e3))):=Hh (grow_z HZ0.out (Below.trans (((belowOrd z)).trans (((belowOrd z)).trans (((belowOrd z)).trans (((belowOrd z)).refl W0) hM8) hM3) hM4) (below_put4 HTL.out _ _ _ _)));have hM9':=below_put4 (w:=wM4) HTL.out (.int .i64 q.kind) (.slice B1 q1 e1) (.slice B2 q2 e2) (.slice B3 q3 e3);have HD9':Hid (NdT (fun b => z ≤ b) ((((World.setCell wM4 ⟨tb,0,none⟩ (.int .i64 q.kind)).setCell ⟨tb,1,none⟩ (.slice B1 q1 e1)).setCell ⟨tb,2,none⟩ (.slice B2 q2 e2)).setCell ⟨tb,3,none⟩ (.slice B3 q3 e3)) B1 B2 B3 q):=Hh ((hC4).keep fun b hb => ⟨Nat.le_trans HZL.out hb.1,other4 (by have h1:=hb.1;have h2:=hb.2;have h4:=HTB.out;have h5:=HZ8.out;have h6:=HZC.out;have h7:=HS3.out;omega) _ _ _ _⟩)
     clear f0 f1 f2 f3 d0 d1 d2 d3;generalize hw9:World.setCell (World.setCell (World.setCell (World.setCell wM4 ⟨tb,0,none⟩ (.int .i64 q.kind)) ⟨tb,1,none⟩ (.slice B1 q1 e1)) ⟨tb,2,none⟩ (.slice B2 q2 e2)) ⟨tb,3,none⟩ (.slice B3 q3 e3) = wM9 at *;have hM9:=hM9';clear hw9 hM9';refine wpR_take (belowOrd z) (i:=10) (v:=?vf15) rfl (by kernel_rfl) (by kernel_rfl) (by kernel_rfl) (fun _ _ _ h => h) (by rfl) ?hf15 ?rf15
     case hf15 => (intro wg hSw;go_simp <;> with_reducible rfl)
     simp only [Act.put,List.setIfInBounds_toArray,List.set_cons_zero,List.set_cons_succ];refine wpR_done (by kernel_rfl) ?_
     have HGT:=Hh (HG2.out.trans (HGW0.out.trans HG9'.out));have t0:=HB9'.out.at0;have t1:=HB9'.out.at1;have t2:=HB9'.out.at2;have t3:=HB9'.out.at3;clear b0 b1 b2 b3 HBK;go_wp2;go_ret;have HZT:=HGT.out.size;have hnl:=node_litT (z:=w.heap.size) (e1:=e1) (e2:=e2) (e3:=e3) HQ1.out HQ2.out HQ3.out HZT (HD9'.out.lt.keep fun b hb => ⟨⟨by have h1:=hb.1;have h2:=HG2.out.size;have h3:=HZW.out;omega,hb.2⟩,rfl⟩)
     rw [HFE.out];exact ⟨_,1,rfl,Nat.le_refl _,hnl,HGT.out.trans (grow_new _ _)⟩
   ·have h5':(x.kind != 5) = false:=by simp [h5]
    by_cases hk0:kidsA ns = []
    ·have HLF:=Hh (HO.out h5 hk0)
     have HK0:=Hh hk0;clear hk0;clear HS HL HO HPL;have HRV:=Hh (fun W h => rvalues_any x A1 A2 A3 c1 c2 c3 W HFX.out HVX.out h);obtain ⟨hfe,hno,hin,hvl⟩:=HLF.out;have HFE:=Hh hfe;obtain ⟨vs,hvs⟩:∃ vs,valsR x = vs:=⟨_,rfl⟩;rw [hvs] at hno hin hvl HRV HFE;obtain ⟨nv,hnv⟩:∃ nv,vs.length = nv:=⟨_,rfl⟩;rw [hnv] at hvl;obtain ⟨q,hq⟩:∃ q,leastN x.shp vs = q:=⟨_,rfl⟩;rw [hq] at hno HFE;have hs1:=HFX.out.2.1
     have HRN:Hid (∀ AV cV W,Nums .i64 W W.heap.size A1 x.shp → Decs W W.heap.size AV vs → Calls Tryz.prog 99 #[.slice A1 x.shp.length c1,.slice AV nv cV] W (OneP (fun b => W.heap.size ≤ b) (some q) W)):=Hh (fun AV cV W h1 h2 => by
      have h:=rnumbers_any A1 x.shp.length c1 x.shp AV nv cV vs W rfl hs1 h1 hnv hvl hin h2;rw [hno] at h
      exact h)
     have HNV:=Hh hnv;clear hfe hno hin hvl hvs hq hs1 HLF hnv;generalize x.kind = kd at *;obtain ⟨l1,hl1⟩:∃ l1,x.shp.length = l1:=⟨_,rfl⟩;obtain ⟨l2,hl2⟩:∃ l2,x.ints.length = l2:=⟨_,rfl⟩;obtain ⟨l3,hl3⟩:∃ l3,x.decs.length = l3:=⟨_,rfl⟩;rw [hl1] at p1 HBX HG1 HKD HRV HRN;rw [hl2] at p2 HBX HG1 HKD HRV;rw [hl3] at p3 HBX HG1 HKD HRV;clear hl1 hl2 hl3;subst h5
     go_enter Tryz.func105,Tryz.ntmps105
     go_wp2_with fail;refine (HKD.out).mono ?_;rintro e w2 ⟨AK,cK,rfl,-,-,-,hg2⟩;have HB2:=Hh (HBX.out.grow hg2);have HG2:=Hh (HG1.out.trans hg2);have HND2:=Hh (HND.out.grow HG2.out);obtain ⟨nb,hnb⟩:∃ nb,w.heap.size = nb:=⟨_,rfl⟩;have HNB:=Hh hnb;have d0:=HB2.out.at0;rw [hnb] at HB2 d0;clear hg2 HKD HBX HG1 IH p0 p1 p2 p3;rw [HK0.out];obtain ⟨z,hz⟩:∃ z,w2.heap.size = z:=⟨_,rfl⟩;have HZW:=Hh hz;clear hz;go_wp2;clear hnb d0;refine wp_region_R ((Below z)) (n:=11) rfl (by kernel_rfl) ?_
     intro W0 hW0e hW0;have HGW0:=Hh hW0;have HZ0:Hid (W0.heap.size = z):=Hh (by rw [hW0e];exact HZW.out)
     have HB9:=Hh (HB2.out.grow hW0);have HBK:Hid (∀ wg,Below z W0 wg → BoxN wg nb 5 A1 l1 c1 A2 l2 c2 A3 l3 c3):=Hh (fun wg h => HB9.out.grow (grow_z HZ0.out h));have b0:∀ wg,Below z W0 wg → wg.cell? ⟨nb,0,none⟩ = some (.int .i64 5):=fun wg h => (HBK.out wg h).at0;have b1:∀ wg,Below z W0 wg → wg.cell? ⟨nb,1,none⟩ = some (.slice A1 l1 c1):=fun wg h => (HBK.out wg h).at1;have b2:∀ wg,Below z W0 wg → wg.cell? ⟨nb,2,none⟩ = some (.slice A2 l2 c2):=fun wg h => (HBK.out wg h).at2;have b3:∀ wg,Below z W0 wg → wg.cell? ⟨nb,3,none⟩ = some (.slice A3 l3 c3):=fun wg h => (HBK.out wg h).at3;have HNW:=Hh (HND2.out.grow HGW0.out);clear hW0e;refine wpR_take (belowOrd z) (i:=0) (v:=?vf16) rfl (by kernel_rfl) (by kernel_rfl) (by kernel_rfl) (fun _ _ _ h => h) (by rfl) ?hf16 ?rf16
     case hf16 => (intro wg hSw;go_simp <;> with_reducible rfl)
     simp only [Act.put,List.setIfInBounds_toArray,List.set_cons_zero,List.set_cons_succ];refine wpR_take (belowOrd z) (i:=1) (v:=?vf17) rfl (by kernel_rfl) (by kernel_rfl) (by kernel_rfl) (fun _ _ _ h => h) (by rfl) ?hf17 ?rf17
     case hf17 => (intro wg hSw;go_simp <;> with_reducible rfl)
     simp only [Act.put,List.setIfInBounds_toArray,List.set_cons_zero,List.set_cons_succ];refine wpR_take (belowOrd z) (i:=2) (v:=?vf18) rfl (by kernel_rfl) (by kernel_rfl) (by kernel_rfl) (fun _ _ _ h => h) (by rfl) ?hf18 ?rf18
     case hf18 => (intro wg hSw;go_simp <;> with_reducible rfl)
     simp only [Act.put,List.setIfInBounds_toArray,List.set_cons_zero,List.set_cons_succ];refine wpR_two (i:=3) (j:=8) (by kernel_rfl) ?_ ?_
     ·refine wpR_op (i:=3) rfl (by rfl) (fun K hK => ?_)
      go_simp;refine (HRV.out W0 (HNW.out.grow (grow_z HZ0.out (((belowOrd z)).refl W0)))).mono ?_;rintro e wM3 ⟨AV,cV,rfl,-,hv3,hN3⟩;rw [HNV.out];have hM3:Below z W0 wM3:=Below.mono hN3 (by rw [← HZ0.out];exact ((((belowOrd z)).refl W0)).size)
      have hC3:Decs wM3 wM3.heap.size AV vs:=hv3.decs;have HS3:=Hh hN3.size;clear hv3;refine hK.out _ _ hM3 ?_;clear hK K
      try simp only [Act.put,List.setIfInBounds_toArray,List.set_cons_zero,List.set_cons_succ]
      refine wpR_two (i:=4) (j:=8) (by kernel_rfl) ?_ ?_
      ·refine wpR_op (i:=4) rfl (by rfl) (fun K hK => ?_)
       go_simp;obtain ⟨zc,hzc⟩:∃ zc,(wM3).heap.size = zc:=⟨_,rfl⟩;have HZC:=Hh hzc;have HZL:Hid (z ≤ zc):=Hh (by rw [← HZ0.out,← hzc];exact ((((belowOrd z)).trans (((belowOrd z)).refl W0) hM3)).size)
       refine (HRN.out AV cV wM3 ((HNW.out.grow (grow_z HZ0.out (((belowOrd z)).trans (((belowOrd z)).refl W0) hM3))).1) hC3).mono ?_;clear hzc;rintro e wM4 ⟨hN4,v,rfl,B1,e1,B2,e2,B3,e3,rfl,m1,m2,m3⟩;have hM4:Below z wM3 wM4:=Below.mono hN4 (by rw [HZC.out];exact HZL.out)
       have hC4:NdT (fun b => zc ≤ b ∧ b < wM4.heap.size) wM4 B1 B2 B3 q:=by
        rw [HZC.out] at m1 m2 m3;exact NdT.lt ⟨m1,m2,m3⟩
       obtain ⟨q1,hq1⟩:∃ q1,q.shp.length = q1:=⟨_,rfl⟩;obtain ⟨q2,hq2⟩:∃ q2,q.ints.length = q2:=⟨_,rfl⟩;obtain ⟨q3,hq3⟩:∃ q3,q.decs.length = q3:=⟨_,rfl⟩;have HQ1:=Hh hq1;have HQ2:=Hh hq2;have HQ3:=Hh hq3;rw [hq1,hq2,hq3];clear hq1 hq2 hq3 m1 m2 m3;refine hK.out _ _ hM4 ?_;clear hK K
       try simp only [Act.put,List.setIfInBounds_toArray,List.set_cons_zero,List.set_cons_succ]
       refine wpR_take (belowOrd z) (i:=5) (v:=?vf19) rfl (by kernel_rfl) (by kernel_rfl) (by kernel_rfl) (fun _ _ _ h => h) (by rfl) ?hf19 ?rf19
       case hf19 => (intro wg hSw;go_simp <;> with_reducible rfl)
       simp only [Act.put,List.setIfInBounds_toArray,List.set_cons_zero,List.set_cons_succ];refine wpR_take (belowOrd z) (i:=6) (v:=?vf20) rfl (by kernel_rfl) (by kernel_rfl) (by kernel_rfl) (fun _ _ _ h => h) (by rfl) ?hf20 ?rf20
       case hf20 => (intro wg hSw;go_simp <;> with_reducible rfl)
       simp only [Act.put,List.setIfInBounds_toArray,List.set_cons_zero,List.set_cons_succ];refine wpR_take (belowOrd z) (i:=7) (v:=?vf21) rfl (by kernel_rfl) (by kernel_rfl) (by kernel_rfl) (fun _ _ _ h => h) (by rfl) ?hf21 ?rf21
       case hf21 => (intro wg hSw;go_simp <;> with_reducible rfl)
       simp only [Act.put,List.setIfInBounds_toArray,List.set_cons_zero,List.set_cons_succ];refine wpR_one (i:=8) (by kernel_rfl) ?_
       refine wpR_op (i:=8) rfl (by rfl) (fun K hK => ?_)
       go_simp;refine hK.out _ _ (Below.mono (grow_new _ _) (by rw [← HZ0.out];exact ((((belowOrd z)).trans (((belowOrd z)).trans (((belowOrd z)).refl W0) hM3) hM4)).size)) ?_
       clear hK K
       try simp only [Act.put,List.setIfInBounds_toArray,List.set_cons_zero,List.set_cons_succ]
       obtain ⟨tb,htb⟩:∃ tb,(wM4).heap.size = tb:=⟨_,rfl⟩;have HTB:=Hh htb;have hbs:=boxN_new wM4 0 none 0 0 none 0 0 none 0 0;have hgs:=grow_new wM4 (.cells #[.int .i64 0,.slice none 0 0,.slice none 0 0,.slice none 0 0] 34);have hsz:(World.alloc wM4 (.cells #[.int .i64 0,.slice none 0 0,.slice none 0 0,.slice none 0 0] 34)).heap.size = tb + 1:=by rw [← htb];simp
       rw [htb] at hbs ⊢;have HTL:Hid (z ≤ tb):=Hh (by rw [← HZ0.out,← htb];exact ((((belowOrd z)).trans (((belowOrd z)).trans (((belowOrd z)).refl W0) hM3) hM4)).size)
       generalize hwM8:World.alloc wM4 (.cells #[.int .i64 0,.slice none 0 0,.slice none 0 0,.slice none 0 0] 34) = wM8 at *;have hC8:BoxN wM8 tb 0 none 0 0 none 0 0 none 0 0:=hbs;have hN8:Grow wM4 wM8:=hgs;have hM8:Below z wM4 wM8:=Below.mono hgs (by rw [← HZ0.out];exact ((((belowOrd z)).trans (((belowOrd z)).trans (((belowOrd z)).refl W0) hM3) hM4)).size)
       have HZ8:=Hh hsz;clear hwM8 htb hbs hgs hsz;refine wpR_one (i:=9) (by kernel_rfl) ?_
       refine wpR_op (i:=9) rfl (by rfl) (fun K hK => ?_)
       have HBB:=Hh hC8;have f0:=HBB.out.froz 0;have f1:=HBB.out.froz 1;have f2:=HBB.out.froz 2;have f3:=HBB.out.froz 3;have d0:=HBB.out.at0;have d1:=HBB.out.at1;have d2:=HBB.out.at2;have d3:=HBB.out.at3;go_simp;refine hK.out _ _ (below_put4 HTL.out _ _ _ _) ?_;clear hK K
       try simp only [Act.put,List.setIfInBounds_toArray,List.set_cons_zero,List.set_cons_succ]
       have HB9':=Hh (HBB.out.store q.kind B1 B2 B3 q1 e1 q2 e2 q3 e3);have HG9':Hid (Grow W0 ((((World.setCell wM8 ⟨tb,0,none⟩ (.int .i64 q.kind)).setCell ⟨tb,1,none⟩ (.slice B1 q1 e1)).setCell ⟨tb,2,none⟩ (.slice B2 q2 e2)).setCell ⟨tb,3,none⟩ (.slice B3 q3 e3))):=Hh (grow_z HZ0.out (Below.trans (((belowOrd z)).trans (((belowOrd z)).trans (((belowOrd z)).trans (((belowOrd z)).refl W0) hM3) hM4) hM8) (below_put4 HTL.out _ _ _ _)));have hM9':=below_put4 (w:=wM8) HTL.out (.int .i64 q.kind) (.slice B1 q1 e1) (.slice B2 q2 e2) (.slice B3 q3 e3);have HD9':Hid (NdT (fun b => z ≤ b) ((((World.setCell wM8 ⟨tb,0,none⟩ (.int .i64 q.kind)).setCell ⟨tb,1,none⟩ (.slice B1 q1 e1)).setCell ⟨tb,2,none⟩ (.slice B2 q2 e2)).setCell ⟨tb,3,none⟩ (.slice B3 q3 e3)) B1 B2 B3 q):=Hh (((hC4.grow hN8)).keep fun b hb => ⟨Nat.le_trans HZL.out hb.1,other4 (by have h1:=hb.1;have h2:=hb.2;have h4:=HTB.out;have h5:=HZ8.out;have h6:=HZC.out;have h7:=HS3.out;omega) _ _ _ _⟩)
       clear f0 f1 f2 f3 d0 d1 d2 d3;generalize hw9:World.setCell (World.setCell (World.setCell (World.setCell wM8 ⟨tb,0,none⟩ (.int .i64 q.kind)) ⟨tb,1,none⟩ (.slice B1 q1 e1)) ⟨tb,2,none⟩ (.slice B2 q2 e2)) ⟨tb,3,none⟩ (.slice B3 q3 e3) = wM9 at *;have hM9:=hM9';clear hw9 hM9';refine wpR_take (belowOrd z) (i:=10) (v:=?vf22) rfl (by kernel_rfl) (by kernel_rfl) (by kernel_rfl) (fun _ _ _ h => h) (by rfl) ?hf22 ?rf22
       case hf22 => (intro wg hSw;go_simp <;> with_reducible rfl)
       simp only [Act.put,List.setIfInBounds_toArray,List.set_cons_zero,List.set_cons_succ];refine wpR_done (by kernel_rfl) ?_
       have HGT:=Hh (HG2.out.trans (HGW0.out.trans HG9'.out));have t0:=HB9'.out.at0;have t1:=HB9'.out.at1;have t2:=HB9'.out.at2;have t3:=HB9'.out.at3;clear b0 b1 b2 b3 HBK;go_wp2;go_ret;have HZT:=HGT.out.size;have hnl:=node_litT (z:=w.heap.size) (e1:=e1) (e2:=e2) (e3:=e3) HQ1.out HQ2.out HQ3.out HZT (HD9'.out.lt.keep fun b hb => ⟨⟨by have h1:=hb.1;have h2:=HG2.out.size;have h3:=HZW.out;omega,hb.2⟩,rfl⟩)
       rw [HFE.out];exact ⟨_,1,rfl,Nat.le_refl _,hnl,HGT.out.trans (grow_new _ _)⟩
      ·refine wpR_op (i:=8) rfl (by rfl) (fun K hK => ?_)
       go_simp;refine hK.out _ _ (Below.mono (grow_new _ _) (by rw [← HZ0.out];exact ((((belowOrd z)).trans (((belowOrd z)).refl W0) hM3)).size)) ?_
       clear hK K
       try simp only [Act.put,List.setIfInBounds_toArray,List.set_cons_zero,List.set_cons_succ]
       obtain ⟨tb,htb⟩:∃ tb,(wM3).heap.size = tb:=⟨_,rfl⟩;have HTB:=Hh htb;have hbs:=boxN_new wM3 0 none 0 0 none 0 0 none 0 0;have hgs:=grow_new wM3 (.cells #[.int .i64 0,.slice none 0 0,.slice none 0 0,.slice none 0 0] 34);have hsz:(World.alloc wM3 (.cells #[.int .i64 0,.slice none 0 0,.slice none 0 0,.slice none 0 0] 34)).heap.size = tb + 1:=by rw [← htb];simp
       rw [htb] at hbs ⊢;have HTL:Hid (z ≤ tb):=Hh (by rw [← HZ0.out,← htb];exact ((((belowOrd z)).trans (((belowOrd z)).refl W0) hM3)).size)
       generalize hwM8:World.alloc wM3 (.cells #[.int .i64 0,.slice none 0 0,.slice none 0 0,.slice none 0 0] 34) = wM8 at *;have hC8:BoxN wM8 tb 0 none 0 0 none 0 0 none 0 0:=hbs;have hN8:Grow wM3 wM8:=hgs;have hM8:Below z wM3 wM8:=Below.mono hgs (by rw [← HZ0.out];exact ((((belowOrd z)).trans (((belowOrd z)).refl W0) hM3)).size)
       have HZ8:=Hh hsz;clear hwM8 htb hbs hgs hsz;refine wpR_one (i:=4) (by kernel_rfl) ?_
       refine wpR_op (i:=4) rfl (by rfl) (fun K hK => ?_)
       go_simp;obtain ⟨zc,hzc⟩:∃ zc,(wM8).heap.size = zc:=⟨_,rfl⟩;have HZC:=Hh hzc;have HZL:Hid (z ≤ zc):=Hh (by rw [← HZ0.out,← hzc];exact ((((belowOrd z)).trans (((belowOrd z)).trans (((belowOrd z)).refl W0) hM3) hM8)).size)
       refine (HRN.out AV cV wM8 ((HNW.out.grow (grow_z HZ0.out (((belowOrd z)).trans (((belowOrd z)).trans (((belowOrd z)).refl W0) hM3) hM8))).1) (hC3.grow hN8)).mono ?_;clear hzc;rintro e wM4 ⟨hN4,v,rfl,B1,e1,B2,e2,B3,e3,rfl,m1,m2,m3⟩;have hM4:Below z wM8 wM4:=Below.mono hN4 (by rw [HZC.out];exact HZL.out)
       have hC4:NdT (fun b => zc ≤ b ∧ b < wM4.heap.size) wM4 B1 B2 B3 q:=by
        rw [HZC.out] at m1 m2 m3;exact NdT.lt ⟨m1,m2,m3⟩
       obtain ⟨q1,hq1⟩:∃ q1,q.shp.length = q1:=⟨_,rfl⟩;obtain ⟨q2,hq2⟩:∃ q2,q.ints.length = q2:=⟨_,rfl⟩;obtain ⟨q3,hq3⟩:∃ q3,q.decs.length = q3:=⟨_,rfl⟩;have HQ1:=Hh hq1;have HQ2:=Hh hq2;have HQ3:=Hh hq3;rw [hq1,hq2,hq3];clear hq1 hq2 hq3 m1 m2 m3;refine hK.out _ _ hM4 ?_;clear hK K
       try simp only [Act.put,List.setIfInBounds_toArray,List.set_cons_zero,List.set_cons_succ]
       refine wpR_take (belowOrd z) (i:=5) (v:=?vf23) rfl (by kernel_rfl) (by kernel_rfl) (by kernel_rfl) (fun _ _ _ h => h) (by rfl) ?hf23 ?rf23
       case hf23 => (intro wg hSw;go_simp <;> with_reducible rfl)
       simp only [Act.put,List.setIfInBounds_toArray,List.set_cons_zero,List.set_cons_succ];refine wpR_take (belowOrd z) (i:=6) (v:=?vf24) rfl (by kernel_rfl) (by kernel_rfl) (by kernel_rfl) (fun _ _ _ h => h) (by rfl) ?hf24 ?rf24
       case hf24 => (intro wg hSw;go_simp <;> with_reducible rfl)
       simp only [Act.put,List.setIfInBounds_toArray,List.set_cons_zero,List.set_cons_succ];refine wpR_take (belowOrd z) (i:=7) (v:=?vf25) rfl (by kernel_rfl) (by kernel_rfl) (by kernel_rfl) (fun _ _ _ h => h) (by rfl) ?hf25 ?rf25
       case hf25 => (intro wg hSw;go_simp <;> with_reducible rfl)
       simp only [Act.put,List.setIfInBounds_toArray,List.set_cons_zero,List.set_cons_succ];refine wpR_one (i:=9) (by kernel_rfl) ?_
       refine wpR_op (i:=9) rfl (by rfl) (fun K hK => ?_)
       have HBB:=Hh (hC8.grow hN4);have f0:=HBB.out.froz 0;have f1:=HBB.out.froz 1;have f2:=HBB.out.froz 2;have f3:=HBB.out.froz 3;have d0:=HBB.out.at0;have d1:=HBB.out.at1;have d2:=HBB.out.at2;have d3:=HBB.out.at3;go_simp;refine hK.out _ _ (below_put4 HTL.out _ _ _ _) ?_;clear hK K
       try simp only [Act.put,List.setIfInBounds_toArray,List.set_cons_zero,List.set_cons_succ]
       have HB9':=Hh (HBB.out.store q.kind B1 B2 B3 q1 e1 q2 e2 q3 e3);have HG9':Hid (Grow W0 ((((World.setCell wM4 ⟨tb,0,none⟩ (.int .i64 q.kind)).setCell ⟨tb,1,none⟩ (.slice B1 q1 e1)).setCell ⟨tb,2,none⟩ (.slice B2 q2 e2)).setCell ⟨tb,3,none⟩ (.slice B3 q3 e3))):=Hh (grow_z HZ0.out (Below.trans (((belowOrd z)).trans (((belowOrd z)).trans (((belowOrd z)).trans (((belowOrd z)).refl W0) hM3) hM8) hM4) (below_put4 HTL.out _ _ _ _)));have hM9':=below_put4 (w:=wM4) HTL.out (.int .i64 q.kind) (.slice B1 q1 e1) (.slice B2 q2 e2) (.slice B3 q3 e3);have HD9':Hid (NdT (fun b => z ≤ b) ((((World.setCell wM4 ⟨tb,0,none⟩ (.int .i64 q.kind)).setCell ⟨tb,1,none⟩ (.slice B1 q1 e1)).setCell ⟨tb,2,none⟩ (.slice B2 q2 e2)).setCell ⟨tb,3,none⟩ (.slice B3 q3 e3)) B1 B2 B3 q):=Hh ((hC4).keep fun b hb => ⟨Nat.le_trans HZL.out hb.1,other4 (by have h1:=hb.1;have h2:=hb.2;have h4:=HTB.out;have h5:=HZ8.out;have h6:=HZC.out;have h7:=HS3.out;omega) _ _ _ _⟩)
       clear f0 f1 f2 f3 d0 d1 d2 d3;generalize hw9:World.setCell (World.setCell (World.setCell (World.setCell wM4 ⟨tb,0,none⟩ (.int .i64 q.kind)) ⟨tb,1,none⟩ (.slice B1 q1 e1)) ⟨tb,2,none⟩ (.slice B2 q2 e2)) ⟨tb,3,none⟩ (.slice B3 q3 e3) = wM9 at *;have hM9:=hM9';clear hw9 hM9';refine wpR_take (belowOrd z) (i:=10) (v:=?vf26) rfl (by kernel_rfl) (by kernel_rfl) (by kernel_rfl) (fun _ _ _ h => h) (by rfl) ?hf26 ?rf26
       case hf26 => (intro wg hSw;go_simp <;> with_reducible rfl)
       simp only [Act.put,List.setIfInBounds_toArray,List.set_cons_zero,List.set_cons_succ];refine wpR_done (by kernel_rfl) ?_
       have HGT:=Hh (HG2.out.trans (HGW0.out.trans HG9'.out));have t0:=HB9'.out.at0;have t1:=HB9'.out.at1;have t2:=HB9'.out.at2;have t3:=HB9'.out.at3;clear b0 b1 b2 b3 HBK;go_wp2;go_ret;have HZT:=HGT.out.size;have hnl:=node_litT (z:=w.heap.size) (e1:=e1) (e2:=e2) (e3:=e3) HQ1.out HQ2.out HQ3.out HZT (HD9'.out.lt.keep fun b hb => ⟨⟨by have h1:=hb.1;have h2:=HG2.out.size;have h3:=HZW.out;omega,hb.2⟩,rfl⟩)
       rw [HFE.out];exact ⟨_,1,rfl,Nat.le_refl _,hnl,HGT.out.trans (grow_new _ _)⟩
     ·refine wpR_op (i:=8) rfl (by rfl) (fun K hK => ?_)
      go_simp;refine hK.out _ _ (Below.mono (grow_new _ _) (by rw [← HZ0.out];exact ((((belowOrd z)).refl W0)).size)) ?_
      clear hK K
      try simp only [Act.put,List.setIfInBounds_toArray,List.set_cons_zero,List.set_cons_succ]
      obtain ⟨tb,htb⟩:∃ tb,(W0).heap.size = tb:=⟨_,rfl⟩;have HTB:=Hh htb;have hbs:=boxN_new W0 0 none 0 0 none 0 0 none 0 0;have hgs:=grow_new W0 (.cells #[.int .i64 0,.slice none 0 0,.slice none 0 0,.slice none 0 0] 34);have hsz:(World.alloc W0 (.cells #[.int .i64 0,.slice none 0 0,.slice none 0 0,.slice none 0 0] 34)).heap.size = tb + 1:=by rw [← htb];simp
      rw [htb] at hbs ⊢;have HTL:Hid (z ≤ tb):=Hh (by rw [← HZ0.out,← htb];exact ((((belowOrd z)).refl W0)).size)
      generalize hwM8:World.alloc W0 (.cells #[.int .i64 0,.slice none 0 0,.slice none 0 0,.slice none 0 0] 34) = wM8 at *;have hC8:BoxN wM8 tb 0 none 0 0 none 0 0 none 0 0:=hbs;have hN8:Grow W0 wM8:=hgs;have hM8:Below z W0 wM8:=Below.mono hgs (by rw [← HZ0.out];exact ((((belowOrd z)).refl W0)).size)
      have HZ8:=Hh hsz;clear hwM8 htb hbs hgs hsz;refine wpR_one (i:=3) (by kernel_rfl) ?_
      refine wpR_op (i:=3) rfl (by rfl) (fun K hK => ?_)
      go_simp;refine (HRV.out wM8 (HNW.out.grow (grow_z HZ0.out (((belowOrd z)).trans (((belowOrd z)).refl W0) hM8)))).mono ?_;rintro e wM3 ⟨AV,cV,rfl,-,hv3,hN3⟩;rw [HNV.out];have hM3:Below z wM8 wM3:=Below.mono hN3 (by rw [← HZ0.out];exact ((((belowOrd z)).trans (((belowOrd z)).refl W0) hM8)).size)
      have hC3:Decs wM3 wM3.heap.size AV vs:=hv3.decs;have HS3:=Hh hN3.size;clear hv3;refine hK.out _ _ hM3 ?_;clear hK K
      try simp only [Act.put,List.setIfInBounds_toArray,List.set_cons_zero,List.set_cons_succ]
      refine wpR_one (i:=4) (by kernel_rfl) ?_
      refine wpR_op (i:=4) rfl (by rfl) (fun K hK => ?_)
      go_simp;obtain ⟨zc,hzc⟩:∃ zc,(wM3).heap.size = zc:=⟨_,rfl⟩;have HZC:=Hh hzc;have HZL:Hid (z ≤ zc):=Hh (by rw [← HZ0.out,← hzc];exact ((((belowOrd z)).trans (((belowOrd z)).trans (((belowOrd z)).refl W0) hM8) hM3)).size)
      refine (HRN.out AV cV wM3 ((HNW.out.grow (grow_z HZ0.out (((belowOrd z)).trans (((belowOrd z)).trans (((belowOrd z)).refl W0) hM8) hM3))).1) hC3).mono ?_;clear hzc;rintro e wM4 ⟨hN4,v,rfl,B1,e1,B2,e2,B3,e3,rfl,m1,m2,m3⟩;have hM4:Below z wM3 wM4:=Below.mono hN4 (by rw [HZC.out];exact HZL.out)
      have hC4:NdT (fun b => zc ≤ b ∧ b < wM4.heap.size) wM4 B1 B2 B3 q:=by
       rw [HZC.out] at m1 m2 m3;exact NdT.lt ⟨m1,m2,m3⟩
      obtain ⟨q1,hq1⟩:∃ q1,q.shp.length = q1:=⟨_,rfl⟩;obtain ⟨q2,hq2⟩:∃ q2,q.ints.length = q2:=⟨_,rfl⟩;obtain ⟨q3,hq3⟩:∃ q3,q.decs.length = q3:=⟨_,rfl⟩;have HQ1:=Hh hq1;have HQ2:=Hh hq2;have HQ3:=Hh hq3;rw [hq1,hq2,hq3];clear hq1 hq2 hq3 m1 m2 m3;refine hK.out _ _ hM4 ?_;clear hK K
      try simp only [Act.put,List.setIfInBounds_toArray,List.set_cons_zero,List.set_cons_succ]
      refine wpR_take (belowOrd z) (i:=5) (v:=?vf27) rfl (by kernel_rfl) (by kernel_rfl) (by kernel_rfl) (fun _ _ _ h => h) (by rfl) ?hf27 ?rf27
      case hf27 => (intro wg hSw;go_simp <;> with_reducible rfl)
      simp only [Act.put,List.setIfInBounds_toArray,List.set_cons_zero,List.set_cons_succ];refine wpR_take (belowOrd z) (i:=6) (v:=?vf28) rfl (by kernel_rfl) (by kernel_rfl) (by kernel_rfl) (fun _ _ _ h => h) (by rfl) ?hf28 ?rf28
      case hf28 => (intro wg hSw;go_simp <;> with_reducible rfl)
      simp only [Act.put,List.setIfInBounds_toArray,List.set_cons_zero,List.set_cons_succ];refine wpR_take (belowOrd z) (i:=7) (v:=?vf29) rfl (by kernel_rfl) (by kernel_rfl) (by kernel_rfl) (fun _ _ _ h => h) (by rfl) ?hf29 ?rf29
      case hf29 => (intro wg hSw;go_simp <;> with_reducible rfl)
      simp only [Act.put,List.setIfInBounds_toArray,List.set_cons_zero,List.set_cons_succ];refine wpR_one (i:=9) (by kernel_rfl) ?_
      refine wpR_op (i:=9) rfl (by rfl) (fun K hK => ?_)
      have HBB:=Hh ((hC8.grow hN3).grow hN4);have f0:=HBB.out.froz 0;have f1:=HBB.out.froz 1;have f2:=HBB.out.froz 2;have f3:=HBB.out.froz 3;have d0:=HBB.out.at0;have d1:=HBB.out.at1;have d2:=HBB.out.at2;have d3:=HBB.out.at3;go_simp;refine hK.out _ _ (below_put4 HTL.out _ _ _ _) ?_;clear hK K
      try simp only [Act.put,List.setIfInBounds_toArray,List.set_cons_zero,List.set_cons_succ]
      have HB9':=Hh (HBB.out.store q.kind B1 B2 B3 q1 e1 q2 e2 q3 e3);have HG9':Hid (Grow W0 ((((World.setCell wM4 ⟨tb,0,none⟩ (.int .i64 q.kind)).setCell ⟨tb,1,none⟩ (.slice B1 q1 e1)).setCell ⟨tb,2,none⟩ (.slice B2 q2 e2)).setCell ⟨tb,3,none⟩ (.slice B3 q3 e3))):=Hh (grow_z HZ0.out (Below.trans (((belowOrd z)).trans (((belowOrd z)).trans (((belowOrd z)).trans (((belowOrd z)).refl W0) hM8) hM3) hM4) (below_put4 HTL.out _ _ _ _)));have hM9':=below_put4 (w:=wM4) HTL.out (.int .i64 q.kind) (.slice B1 q1 e1) (.slice B2 q2 e2) (.slice B3 q3 e3);have HD9':Hid (NdT (fun b => z ≤ b) ((((World.setCell wM4 ⟨tb,0,none⟩ (.int .i64 q.kind)).setCell ⟨tb,1,none⟩ (.slice B1 q1 e1)).setCell ⟨tb,2,none⟩ (.slice B2 q2 e2)).setCell ⟨tb,3,none⟩ (.slice B3 q3 e3)) B1 B2 B3 q):=Hh ((hC4).keep fun b hb => ⟨Nat.le_trans HZL.out hb.1,other4 (by have h1:=hb.1;have h2:=hb.2;have h4:=HTB.out;have h5:=HZ8.out;have h6:=HZC.out;have h7:=HS3.out;omega) _ _ _ _⟩)
      clear f0 f1 f2 f3 d0 d1 d2 d3;generalize hw9:World.setCell (World.setCell (World.setCell (World.setCell wM4 ⟨tb,0,none⟩ (.int .i64 q.kind)) ⟨tb,1,none⟩ (.slice B1 q1 e1)) ⟨tb,2,none⟩ (.slice B2 q2 e2)) ⟨tb,3,none⟩ (.slice B3 q3 e3) = wM9 at *;have hM9:=hM9';clear hw9 hM9';refine wpR_take (belowOrd z) (i:=10) (v:=?vf30) rfl (by kernel_rfl) (by kernel_rfl) (by kernel_rfl) (fun _ _ _ h => h) (by rfl) ?hf30 ?rf30
      case hf30 => (intro wg hSw;go_simp <;> with_reducible rfl)
      simp only [Act.put,List.setIfInBounds_toArray,List.set_cons_zero,List.set_cons_succ];refine wpR_done (by kernel_rfl) ?_
      have HGT:=Hh (HG2.out.trans (HGW0.out.trans HG9'.out));have t0:=HB9'.out.at0;have t1:=HB9'.out.at1;have t2:=HB9'.out.at2;have t3:=HB9'.out.at3;clear b0 b1 b2 b3 HBK;go_wp2;go_ret;have HZT:=HGT.out.size;have hnl:=node_litT (z:=w.heap.size) (e1:=e1) (e2:=e2) (e3:=e3) HQ1.out HQ2.out HQ3.out HZT (HD9'.out.lt.keep fun b hb => ⟨⟨by have h1:=hb.1;have h2:=HG2.out.size;have h3:=HZW.out;omega,hb.2⟩,rfl⟩)
      rw [HFE.out];exact ⟨_,1,rfl,Nat.le_refl _,hnl,HGT.out.trans (grow_new _ _)⟩
    ·exact absurd ⟨h5,hk0⟩ HNX.out
open Go.RowKit Go.Lib
def RMakeP (ns:List Nd) (w:World) (e:Ending) (w':World):Prop :=
 Grow w w' ∧ ((rightA ns = false ∧ e = .returned (.tuple #[.slice none 0 0,.bool false])) ∨ (rightA ns = true ∧ ∃ A' r c',e = .returned (.tuple #[.slice A' r c',.bool true]) ∧ (formA ns).length = r ∧ r ≤ c' ∧ Nodes w' w'.heap.size A' (formA ns)))
theorem rmake_any (A:Option Addr) (n c:Nat) (ns:List Nd) (w:World) (hn:ns.length = n) (hnc:n ≤ c) (hf:Fine ns) (hns:Nodes w w.heap.size A ns) :
  Calls Tryz.prog 62 #[.slice A n c] w (RMakeP ns w):=by
 have hn6:n ≤ 1100000:=by rw [← hn];exact hf.1
 have HC:=Hh (rrightA_any A n c ns w hn hn6 hnc hf.2.1 hns);have HFM:=Hh (fun h W hw => rform_any (ws ns).d A n c ns W hn hnc hf h (Nat.le_refl _) hw);have HNS:=Hh hns;obtain ⟨β,hβ⟩:∃ β,rightA ns = β:=⟨_,rfl⟩;rw [hβ] at HC HFM;have HB:=Hh hβ;clear hn hnc hf hns hβ
 go_enter Tryz.func62,Tryz.ntmps62
 go_wp2_with fail;refine (HC.out).mono ?_;rintro e w2 ⟨rfl,hg2⟩;have HG2:=Hh hg2;have HN2:=Hh (HNS.out.grow hg2);clear hg2
 cases β with
 | false =>
  go_wp2;go_ret2;exact ⟨HG2.out,.inl ⟨HB.out,rfl⟩⟩
 | true =>
  have HK:=Hh (HFM.out rfl w2 HN2.out);clear HC HFM HN2 HNS;obtain ⟨r,hr⟩:∃ r,(formA ns).length = r:=⟨_,rfl⟩;have HR:=Hh hr;clear hr;go_wp2_with fail;refine (HK.out).mono ?_;rintro e w3 ⟨A',c',rfl,hc,hN,hg3⟩;have HG3:=Hh (HG2.out.trans hg3);have HN3:=Hh hN.nodes;rw [HR.out] at hc ⊢;have HC3:=Hh hc;clear hc hN hg3 HK;go_wp2;go_ret2;exact ⟨HG3.out,.inr ⟨HB.out,_,_,_,rfl,HR.out,HC3.out,HN3.out⟩⟩
theorem rtright_any (A:Option Addr) (n c:Nat) (ns:List Nd) (w:World) (hn:ns.length = n) (hnc:n ≤ c) (hf:Fine ns) (hns:Nodes w w.heap.size A ns) :
  Calls Tryz.prog 29 #[.slice A n c] w (Ret (.bool (rightA ns && decide (ns = formA ns))) w):=by
 have HC:=Hh (rmake_any A n c ns w hn hnc hf hns);have HFF:Hid (rightA ns = true → Fine (formA ns)):=Hh (fun h => (form_right h hf).2.2.2.2.1);have HNS:=Hh hns;have HF:=Hh hf;have HN:=Hh hn;unfold RMakeP at HC;generalize rightA ns = β at *;clear hn hnc hf hns
 go_enter Tryz.func29,Tryz.ntmps29
 go_wp2_with fail;refine (HC.out).mono ?_;rintro e w2 ⟨hg,⟨rfl,rfl⟩ | ⟨rfl,A',r,c',rfl,hr,hc,hN⟩⟩
 ·have HG:=Hh hg
  clear hg HC;go_wp2;go_ret;exact ⟨rfl,HG.out⟩
 ·have HG:=Hh hg
  have hfn:=HFF.out rfl;have HS:=Hh (rsameN_any A A' n r c c' ns (formA ns) w2 HN.out hr (by rw [← HN.out];exact HF.out.1) (by rw [← hr];exact hfn.1) HF.out.2.1 hfn.2.1 (HNS.out.grow hg) hN)
  clear hg hN hr hfn HC;generalize decide (ns = formA ns) = γ at *;go_wp2_with fail;refine (HS.out).mono ?_;rintro x w3 ⟨rfl,hg3⟩;go_wp2;go_ret;exact ⟨rfl,HG.out.trans hg3⟩
end Go.Proofs.YteoogioanjkacaaGreatDoor
