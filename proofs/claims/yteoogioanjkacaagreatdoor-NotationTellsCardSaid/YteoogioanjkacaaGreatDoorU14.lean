/-
  Contracts, joined: NROne, NRRead, QRNext, QRSigns, QRRead, DRead, DItems, DParse, LTells. Nothing is claimed here by itself.
-/
import Derived.Test.YteoogioanjkacaaGreatDoorU01
import Derived.Test.YteoogioanjkacaaGreatDoorU08
import Derived.Test.YteoogioanjkacaaGreatDoorU10
import Derived.Test.YteoogioanjkacaaGreatDoorU11
import Derived.Test.YteoogioanjkacaaGreatDoorU12
import Derived.Test.YteoogioanjkacaaGreatDoorU13
set_option maxRecDepth 100000
set_option maxHeartbeats 12800000
set_option linter.unusedSimpArgs false
set_option linter.unusedVariables false
namespace Go.Proofs.YteoogioanjkacaaGreatDoor.Num
open Go.RowKit Go.Lib
def longZ (r:List UInt8):Prop:=1 < r.length ∧ r.getLast? = some 48
theorem last_step {r:List UInt8} (h:longZ r):r = r.take (r.length - 1) ++ [48] ∧ r[r.length - 1]? = some 48:=by
 obtain ⟨h1,h2⟩:=h;have hl:r[r.length - 1]? = some 48:=by rw [← List.getLast?_eq_getElem?];exact h2
 refine ⟨?_,hl⟩;have e:=List.take_succ_eq_append_getElem (l:=r) (i:=r.length - 1) (by omega)
 have hg:r[r.length - 1] = 48:=(List.getElem?_eq_some_iff.1 hl).2;rw [hg,show r.length - 1 + 1 = r.length by omega,List.take_length] at e
 exact e
theorem end_of {r:List UInt8} (h:¬ longZ r):r.getLast? ≠ some 48 ∨ r = [48]:=by
 by_cases h2:r.getLast? = some 48
 ·refine .inr ?_
  have hl:¬ 1 < r.length:=fun h1 => h ⟨h1,h2⟩
  match r,hl,h2 with
  | [],_,h2 => cases h2
  | [c],_,h2 => simpa using h2
  | c :: d :: t,hl,_ => exact absurd hl (by simp)
 ·exact .inl h2
theorem zeros_more {l r q:List UInt8} {k:Nat} (h:l = r ++ List.replicate k 48) (hr:r = q ++ [48]):l = q ++ List.replicate (k + 1) 48:=by
 rw [h,hr,List.append_assoc,List.replicate_succ];rfl
theorem roundD_big {t:List UInt8} {k:Nat} (h:18 < k):roundD t k = ((0,0),false):=by
 unfold roundD;rw [if_neg];rintro ⟨_,_,h3⟩;rw [whole_far (parseD_in t).1 (by omega)] at h3
 cases h3
theorem round_num {l t:List UInt8} {k:Nat} {m v:Int} (hl:l = t ++ List.replicate k 48) (ht:t.getLast? ≠ some 48 ∨ t = [48]) (hp:(parseD l).2 = false) (hq:parseD t = ((m,0),true)) (hw:wholeD m (k:Int) = (v,true)):num v = l ∧ In v:=by
 obtain ⟨hr,htx⟩:=parseD_true (l:=t) (by rw [hq])
 have hmi:=(parseD_in t).1;rw [hq] at hr htx hmi;simp only at hr htx hmi;rw [text_plain hr] at htx;obtain ⟨hrk,_,hin,hv⟩:=whole_true (m:=m) (e:=(k:Int)) (by rw [hw])
 rw [hw,Int.toNat_natCast] at hv;simp only at hv;rw [Int.toNat_natCast,← hv] at hin;refine ⟨?_,hin⟩
 by_cases hm0:m = 0
 ·exfalso
  subst hm0;have hk:k = 0:=by
   rcases (rightD_iff hmi).1 hrk with ⟨_,h⟩ | ⟨h,_⟩ <;> omega
  subst hk;have:parseD l = ((0,0),true):=by rw [hl,List.replicate_zero,List.append_nil];exact hq
  rw [this] at hp
  cases hp
 ·rw [hv,num_mul k hm0,htx,hl]
theorem rone_any (l:List UInt8) (hl:l.length ≤ 1000000) (w:World) :
  Calls Tryz.prog 101 #[.string ⟨l.toArray⟩] w fun x w' => x = .returned (.tuple #[.agg #[.int .i64 (oneD l).1.1,.int .i64 (oneD l).1.2],.bool (oneD l).2]) ∧ Grow w w':=by
 have HP:=Hh (fun W => rparse_any l hl W);have HY:=Hh (fun h => oneD_of (l:=l) h);have HRO:=Hh (fun (r:List UInt8) (k:Nat) (h1:l = r ++ List.replicate k 48) (h2:r.getLast? ≠ some 48 ∨ r = [48]) (h3:(parseD l).2 = false) => round_of h1 h2 h3);have HRN:=Hh (fun (r:List UInt8) (k:Nat) (m v:Int) (h1:l = r ++ List.replicate k 48) (h2:r.getLast? ≠ some 48 ∨ r = [48]) (h3:(parseD l).2 = false) hq hw => round_num (m:=m) (v:=v) h1 h2 h3 hq hw);obtain ⟨⟨⟨m,e⟩,b⟩,hd⟩:∃ r,parseD l = r:=⟨_,rfl⟩;rw [hd] at HP HY HRO HRN;simp only at HP HY HRO HRN;generalize oneD l = o at *;clear hd;have hlz:=str_size l
 go_enter Tryz.func101,Tryz.ntmps101
 go_wp2_with fail;refine (HP.out _).mono ?_;rintro x w1 ⟨rfl,hg⟩;have HG1:=Hh ((grow_new w _).trans hg);have HB0:=Hh ((boxed_new w (.int .i64 0) (.int .i64 0) 41).grow hg);clear hg HP;have hf0:∀ o j,(w1.alloc o).frozen? ⟨w.heap.size,j,none⟩ = false:=fun o j => (HB0.out.grow (grow_new _ o)).froz j;have hcc0:∀ o,(w1.alloc o).cell? ⟨w.heap.size,0,none⟩ = some (.int .i64 0):=fun o => (HB0.out.grow (grow_new _ o)).fst;have hcc1:∀ o,(w1.alloc o).cell? ⟨w.heap.size,1,none⟩ = some (.int .i64 0):=fun o => (HB0.out.grow (grow_new _ o)).snd;have hne:¬ w1.heap.size = w.heap.size:=by have:=HB0.out.lt;omega
 cases b
 rotate_left
 ·have HV:=Hh (HY.out rfl)
  clear HRO HRN HY;go_wp2;have hr:=((HB0.out.grow (grow_new w1 (.cells #[.int .i64 m,.int .i64 e] 41))).put0 (.int .i64 m)).put1 (.int .i64 e);exact bodyPost_ret (v:=.tuple #[.agg #[.int .i64 m,.int .i64 e],.bool true]) (by simp [results,Tryz.results101,go_sem,hr.fst,hr.snd]) rfl
   ⟨by rw [HV.out],((HG1.out.trans (grow_new _ _)).put (Nat.le_refl _) 0 _).put (Nat.le_refl _) 1 _⟩
 ·have HRO1:=Hh (fun r k h1 h2 => HRO.out r k h1 h2 rfl)
  have HRN1:=Hh (fun r k m v h1 h2 => HRN.out r k m v h1 h2 rfl);have HG2:=Hh (HG1.out.trans (grow_new w1 (.cells #[.int .i64 m,.int .i64 e] 41)));have HX2:=Hh (boxed_new w1 (.int .i64 m) (.int .i64 e) 41);have HB2:=Hh (HB0.out.grow (grow_new w1 (.cells #[.int .i64 m,.int .i64 e] 41)));have HZ:=Hh (show w.heap.size ≤ w1.heap.size from HG1.out.size);clear HRO HRN HY hf0 hcc0 hcc1;go_wp2
  go_loopg [6,7] l.length (fun gk s6 s7 wr => ∃ (r:List UInt8) (k:Nat),gk = r.length ∧ s6 = .string ⟨r.toArray⟩ ∧ s7 = .int .i64 k ∧ r.length + k = l.length ∧ Hid (l = r ++ List.replicate k 48) ∧ w1.alloc (.cells #[.int .i64 m,.int .i64 e] 41) = wr)
  case atStart => exact ⟨l,0,rfl,rfl,rfl,by omega,Hh (by simp),rfl⟩
  case round =>
   obtain ⟨r,k,rfl,rfl,rfl,hlen,HE,rfl⟩:=hrel;have hrz:=str_size r;have:Decidable (longZ r):=Classical.propDecidable _;obtain ⟨β,hβ⟩:∃ β:Bool,β = decide (longZ r):=⟨_,rfl⟩;have HT:Hid (β = true ↔ longZ r):=by rw [hβ];exact Hh decide_eq_true_iff
   clear hβ this;go_upto_region 6 with fail
   go_cut [28] from 18 to 28 (fun z wx => z = .bool β ∧ w1.alloc (.cells #[.int .i64 m,.int .i64 e] 41) = wx)
   case first =>
    by_cases h1:1 < r.length
    ·have hlt1:(1:Int) < ((r.length:Nat):Int):=by omega
     have hck:r[r.length - 1]? = some r[r.length - 1]:=List.getElem?_eq_getElem (by omega)
     have hix:=index_at hck;have hsub:IntKind.i64.wrap (((r.length:Nat):Int) - 1) = ((r.length - 1:Nat):Int):=by rw [IntKind.wrap_i64];omega
     have hlz:longZ r ↔ r[r.length - 1] = 48:=by
      unfold longZ;rw [List.getLast?_eq_getElem?,hck];simp [h1]
     generalize r[r.length - 1] = c at *;obtain ⟨j,hj⟩:∃ j,r.length - 1 = j:=⟨_,rfl⟩;rw [hj] at hix hsub
     by_cases hc:c = 48
     ·have HV:=Hh (show Value.bool true = .bool β by rw [HT.out.2 (hlz.2 hc)])
      have hcb:(((c.toNat:Nat):Int) == 48) = true:=by rw [hc];rfl
      clear hc hlz hck hj;generalize c.toNat = C at *;go_wp2;go_meet
      case rel => exact ⟨HV.out,rfl⟩
     ·have HV:=Hh (show Value.bool false = .bool β by
       have:β ≠ true:=fun e => hc (hlz.1 (HT.out.1 e));simp at this
       rw [this])
      have hcb:(((c.toNat:Nat):Int) == 48) = false:=by
       rw [beq_eq_false_iff_ne];intro h;apply hc;apply UInt8.toNat_inj.1;have h48:(48:UInt8).toNat = 48:=rfl;omega
      clear hc hlz hck hj;generalize c.toNat = C at *;go_wp2;go_meet
      case rel => exact ⟨HV.out,rfl⟩
    ·have hlt1:¬ (1:Int) < ((r.length:Nat):Int):=by omega
     have HV:=Hh (show Value.bool false = .bool β by
      have:β ≠ true:=fun e => h1 (HT.out.1 e).1;simp at this
      rw [this])
     go_wp2;go_meet
     case rel => exact ⟨HV.out,rfl⟩
   case rest =>
   obtain ⟨rfl,rfl⟩:=hcut
   cases β
   case true =>
    have hz:=HT.out.1 rfl;obtain ⟨h1,h2⟩:=last_step hz;have hrpos:1 < r.length:=hz.1;have hsub:IntKind.i64.wrap (((r.length:Nat):Int) - 1) = ((r.length - 1:Nat):Int):=by rw [IntKind.wrap_i64];omega
    have hst:=slice_to r (r.length - 1) (by omega)
    have HE2:=Hh (zeros_more HE.out h1);have hql:(r.take (r.length - 1)).length = r.length - 1:=by rw [List.length_take];omega
    obtain ⟨j,hj⟩:∃ j,r.length - 1 = j:=⟨_,rfl⟩;rw [hj] at hsub hst HE2 hql;clear h1 h2 hz HE HT;generalize r.take j = q at *;go_wp2;go_roundg j
    case rel => exact ⟨q,k + 1,by rw [hql],rfl,by go_num,by omega,HE2,rfl⟩
    case measure => omega
   have hend:=end_of (fun h => by have:=HT.out.2 h;cases this)
   have HO:=Hh (HRO1.out r k HE.out hend);have HNM:=Hh (fun m v => HRN1.out r k m v HE.out hend);have HPR:=Hh (fun W => rparse_any r (by omega) W)
   have hin:=parseD_in r;have HNOT:=Hh (roundD_not (t:=r) (k:=k));have HFAR:=Hh (fun (m:Int) hp h => roundD_far (t:=r) (k:=k) (m:=m) hp h);have HYES:=Hh (fun (m:Int) hp h => roundD_yes (t:=r) (k:=k) (m:=m) hp h);have HBIG:=Hh (roundD_big (t:=r) (k:=k));obtain ⟨⟨⟨m2,e2⟩,b2⟩,hd⟩:∃ q,parseD r = q:=⟨_,rfl⟩;rw [hd] at HPR hin HNOT HFAR HYES HNM;simp only at HPR hin HNOT;clear hd hend HRO1 HRN1 HE HT;generalize roundD r k = ρ at *;go_wp2_with fail;refine (HPR.out _).mono ?_;rintro x w3 ⟨rfl,hg⟩;have HG3:=Hh (HG2.out.trans hg);have hx3:=HX2.out.grow hg;have HB3:=Hh (HB2.out.grow hg);have x0:=hx3.fst;have x1:=hx3.snd;have xf0:=hx3.froz 0;have xf1:=hx3.froz 1;have HX3:=Hh hx3;clear hg hx3 HPR HX2 HB2 HG2;go_upto_region 10 with fail
   clear x0 x1 xf0 xf1;have hx4:=(HX3.out.put0 (.int .i64 m2)).put1 (.int .i64 e2);have hb4:=(HB3.out.other hne 0 (.int .i64 m2)).other hne 1 (.int .i64 e2);have hg4:=(HG3.out.put HZ.out 0 (.int .i64 m2)).put HZ.out 1 (.int .i64 e2);generalize (w3.setCell ⟨w1.heap.size,0,none⟩ (.int .i64 m2)).setCell ⟨w1.heap.size,1,none⟩ (.int .i64 e2) = w4 at hx4 hb4 hg4 ⊢;have x0:=hx4.fst;have x1:=hx4.snd;have xf1:=hx4.froz 1;have y0:=hb4.fst;have y1:=hb4.snd;have yf0:=hb4.froz 0;have yf1:=hb4.froz 1;have HX4:=Hh hx4;have HB4:=Hh hb4;have HG4:=Hh hg4;clear hx4 hb4 hg4 HX3 HB3 HG3
   cases b2
   ·have HR:=Hh (HNOT.out (.inl rfl))
    clear HNOT HFAR HYES HBIG HNM;go_wp2;have hr:=(HB4.out.put0 (.int .i64 0)).put1 (.int .i64 0);exact bodyPost_ret (v:=.tuple #[.agg #[.int .i64 0,.int .i64 0],.bool false]) (by simp [results,Tryz.results101,go_sem,hr.fst,hr.snd]) rfl
     ⟨by rw [HO.out,HR.out],(HG4.out.put (Nat.le_refl _) 0 _).put (Nat.le_refl _) 1 _⟩
   by_cases h0:e2 = 0
   rotate_left
   ·have HR:=Hh (HNOT.out (.inr h0))
    have h0b:(e2 == 0) = false:=by simpa using h0
    clear HNOT HFAR HYES HBIG HNM;go_wp2;have hr:=(HB4.out.put0 (.int .i64 0)).put1 (.int .i64 0);exact bodyPost_ret (v:=.tuple #[.agg #[.int .i64 0,.int .i64 0],.bool false]) (by simp [results,Tryz.results101,go_sem,hr.fst,hr.snd]) rfl
     ⟨by rw [HO.out,HR.out],(HG4.out.put (Nat.le_refl _) 0 _).put (Nat.le_refl _) 1 _⟩
   subst h0
   by_cases h18:18 < k
   ·have HR:=Hh (HBIG.out h18)
    have h18i:(18:Int) < ((k:Nat):Int):=by omega
    clear HNOT HFAR HYES HBIG HNM;go_wp2;have hr:=(HB4.out.put0 (.int .i64 0)).put1 (.int .i64 0);exact bodyPost_ret (v:=.tuple #[.agg #[.int .i64 0,.int .i64 0],.bool false]) (by simp [results,Tryz.results101,go_sem,hr.fst,hr.snd]) rfl
     ⟨by rw [HO.out,HR.out],(HG4.out.put (Nat.le_refl _) 0 _).put (Nat.le_refl _) 1 _⟩
   have h18i:¬ (18:Int) < ((k:Nat):Int):=by omega
   have HW:=Hh (fun W => rwhole_any m2 (k:Int) W hin.1 ⟨by omega,by omega⟩)
   clear HNOT HBIG;go_upto_region 13 with fail
   clear x0 x1 xf1 y0 y1 yf0 yf1;have hx5:=HX4.out.put1 (.int .i64 (k:Int));have hb5:=HB4.out.other hne 1 (.int .i64 (k:Int));have hg5:=HG4.out.put HZ.out 1 (.int .i64 (k:Int));generalize w4.setCell ⟨w1.heap.size,1,none⟩ (.int .i64 (k:Int)) = w5 at hx5 hb5 hg5 ⊢;have x0:=hx5.fst;have x1:=hx5.snd;have HX5:=Hh hx5;have HB5:=Hh hb5;have HG5:=Hh hg5;clear hx5 hb5 hg5 HX4 HB4 HG4;go_wp2_with fail;refine (HW.out _).mono ?_;rintro x w6 ⟨rfl,hg⟩;have HG6:=Hh (HG5.out.trans hg);have HX6:=Hh (HX5.out.grow hg);have HB6:=Hh (HB5.out.grow hg);clear hg HX5 HB5 HG5 HW x0 x1;obtain ⟨⟨v,ok⟩,hw⟩:∃ p,wholeD m2 (k:Int) = p:=⟨_,rfl⟩;have HF1:=Hh (HFAR.out m2 rfl);have HY1:=Hh (HYES.out m2 rfl);have HN1:=Hh (fun v => HNM.out m2 v rfl);rw [hw] at HF1 HY1 HN1 ⊢;dsimp only at HF1 HY1 HN1 ⊢;clear HFAR HYES HNM hw
   cases ok
   ·have HR:=Hh (HF1.out rfl)
    have y0:=HB6.out.fst;have y1:=HB6.out.snd;have yf0:=HB6.out.froz 0;have yf1:=HB6.out.froz 1;clear HF1 HY1 HN1;go_wp2;have hr:=(HB6.out.put0 (.int .i64 0)).put1 (.int .i64 0);exact bodyPost_ret (v:=.tuple #[.agg #[.int .i64 0,.int .i64 0],.bool false]) (by simp [results,Tryz.results101,go_sem,hr.fst,hr.snd]) rfl
     ⟨by rw [HO.out,HR.out],(HG6.out.put (Nat.le_refl _) 0 _).put (Nat.le_refl _) 1 _⟩
   ·have HR:=Hh (HY1.out rfl)
    obtain ⟨hnv,hvi⟩:=HN1.out v rfl;have HV:=Hh (fun W => rnumber_any v W hvi);rw [hnv] at HV;clear HF1 HY1 HN1 hnv hvi;go_wp2_with fail;refine (HV.out _).mono ?_;rintro x w7 ⟨rfl,hg⟩;have HG7:=Hh (HG6.out.trans hg);have hx7:=HX6.out.grow hg;have hb7:=HB6.out.grow hg;have x0:=hx7.fst;have x1:=hx7.snd;have y0:=hb7.fst;have y1:=hb7.snd;have yf0:=hb7.froz 0;have yf1:=hb7.froz 1;have HB7:=Hh hb7;clear hg hx7 hb7 HX6 HB6 HG6 HV;go_wp2;have hr:=(HB7.out.put0 (.int .i64 m2)).put1 (.int .i64 (k:Int));exact bodyPost_ret (v:=.tuple #[.agg #[.int .i64 m2,.int .i64 (k:Int)],.bool true]) (by simp [results,Tryz.results101,go_sem,hr.fst,hr.snd]) rfl
     ⟨by rw [HO.out,HR.out],(HG7.out.put (Nat.le_refl _) 0 _).put (Nat.le_refl _) 1 _⟩
open Go.RowKit Go.Lib
theorem decs_lit2 (w:World) (o:Obj) (q r:Int):Decs ((w.alloc o).alloc (.cells #[.int .i64 q,.int .i64 r] 41)) ((w.alloc o).alloc (.cells #[.int .i64 q,.int .i64 r] 41)).heap.size (some ⟨w.heap.size + 1,0,none⟩) [(q,r)]:=by
 have h:=decs_lit1 (w.alloc o) q r;rw [size_alloc w o] at h;exact h
theorem next_short {r:List UInt8} (h:r.length < 2):nextD r = none:=by
 match r,h with
 | [],_ => rfl
 | [c],_ =>
  by_cases hc:c = 32
  ·subst hc;rfl
  ·exact nextD_other (by simpa using hc)
theorem rread_any (l:List UInt8) (hl:l.length ≤ 100000) (w:World) :
  Calls Tryz.prog 57 #[.string ⟨l.toArray⟩] w (ReadP (mkL (readO l)).1 (mkL (readO l)).2.1 (mkL (readO l)).2.2 w):=by
 obtain ⟨B,hB⟩:∃ B,w.heap.size = B:=⟨_,rfl⟩;have HBE:=Hh hB;clear hB
 go_enter Tryz.func57,Tryz.ntmps57
 go_wp2
 go_loopg [0,5] l.length (fun gk s0 s5 wr => ∃ (r:List UInt8) (acc:List Dc) (v:Value),gk = r.length ∧ s0 = .string ⟨r.toArray⟩ ∧ v = s5 ∧ Hid (OwnD B v acc wr) ∧ Hid (readO l = (readO r).map fun p => (acc ++ p.1,p.2)) ∧ acc.length + r.length ≤ l.length ∧ Hid (Below B w wr))
 case atStart => exact ⟨l,[],_,rfl,rfl,rfl,Hh (ownD_nil _ _),Hh (by simp),by simp,Hh (Below.refl _ _)⟩
 case round =>
  obtain ⟨r,acc,v,rfl,rfl,rfl,HO,HRD,hlen,HG⟩:=hrel;have hrl:r.length ≤ 1000000:=by omega
  have HZ:Hid (B ≤ wr.heap.size):=Hh (by rw [← HBE.out];exact HG.out.size)
  have HP:=Hh (fun W => rpieces_any r hrl W);have hple:=npc_le r;have hst:=slice_to r (npc r) hple;have hsd:=slice_from r (npc r) hple;have HN0:=Hh (read_none HRD.out);have HN1:=Hh (read_last HRD.out);have HN2:=Hh (fun t => read_on (t:=t) HRD.out);have HPP:=Hh (npc_pos_of (r:=r));have htl:(r.take (npc r)).length ≤ 1000000:=by rw [List.length_take];omega
  have HQ:=Hh (fun W => rone_any (r.take (npc r)) htl W);have HDL:=Hh (show (r.drop (npc r)).length = r.length - npc r by simp)
  clear HRD htl;generalize npc r = p at *;generalize oneD (r.take p) = d at *;generalize r.take p = rt at *;generalize r.drop p = rd at *;obtain ⟨⟨m,e⟩,ok⟩:=d;dsimp only at *;go_wp2_with fail;refine (HP.out _).mono ?_;rintro x w1 ⟨rfl,rfl⟩;clear HP;have HGW:Hid (Grow w w1):=Hh (by unfold Grow;rw [HBE.out];exact HG.out)
  go_wp2_with fail;refine (HQ.out _).mono ?_;rintro x w2 ⟨rfl,hg⟩;have HG2:=Hh hg;clear hg HQ hst
  cases ok
  ·have HV:=Hh (HN0.out rfl)
   have HG3:=Hh (HG2.out.trans (grow_new w2 (.cells #[.int .i64 m,.int .i64 e] 41)));clear HN0 HN1 HN2 HPP;go_wp2;go_ret3;rw [HV.out];exact ⟨none,0,rfl,Nat.le_refl _,Decs.none_,HGW.out.trans HG3.out⟩
  ·have HV1:=Hh (HN1.out rfl)
   have HV2:=Hh (fun t => HN2.out t rfl);have hp0:=HPP.out rfl;have HG3:=Hh (HG2.out.trans (grow_new2 w2 (.cells #[.int .i64 m,.int .i64 e] 41) (.cells #[.int .i64 m,.int .i64 e] 41)));have HO3:=Hh (HO.out.grow HG3.out);have HZ3:=Hh (Nat.le_trans HZ.out HG3.out.size);have HGB3:=Hh (Below.trans HG.out (Below.mono HG3.out HZ.out));have HL3:=Hh (decs_lit2 w2 (.cells #[.int .i64 m,.int .i64 e] 41) m e);clear HN0 HN1 HN2 HPP HO HG HGW HG3 HG2;have hrdl:=HDL.out;have hacc:acc.length + 1 ≤ 1000000000:=by omega
   by_cases hs2:rd.length < 2
   ·have hs2i:decide (((rd.length:Nat):Int) < 2) = true:=by rw [decide_eq_true_iff];omega
    have hs2n:decide (rd.length < 2) = true:=decide_eq_true hs2;have HE:=Hh (HV1.out (next_short hs2));have hrz:=str_size rd;clear HV1 HV2;go_wp2_with (at_builtin;refine wpList_more_decs rfl _ _ rfl B v acc (some ⟨w2.heap.size + 1,0,none⟩) 1 1 [(m,e)] rfl HO3.out rfl rfl HL3.out hacc HZ3.out ?_;intro v' w5 HO5 HB5)
    go_ret3;obtain ⟨A,c,e1,h1,h2⟩:=HO5.out.decs;rw [HE.out];exact ⟨A,c,by rw [← e1];rfl,h1,h2,by unfold Grow;rw [HBE.out];exact Below.trans HGB3.out HB5.out⟩
   ·have hs2i:decide (((rd.length:Nat):Int) < 2) = false:=by rw [decide_eq_false_iff_not];omega
    have hs2n:decide (rd.length < 2) = false:=decide_eq_false hs2;have hrz:=str_size rd;obtain ⟨c,t,hrd⟩:∃ c t,rd = c :: t:=by
     cases rd with
     | nil => simp at hs2
     | cons c t => exact ⟨c,t,rfl⟩
    have hix:∀ W,(Instr.index 9 (.string ⟨rd.toArray⟩) (.int .i64 0)).run Tryz.prog W = .ok (.int .u8 (c.toNat:Nat)) W:=fun W => index_at (l:=rd) (i:=0) (by rw [hrd];rfl) W
    have hs1:∀ W,(Instr.slice 9 (.string ⟨rd.toArray⟩) (some (.int .i64 1)) none none).run Tryz.prog W = .ok (.string ⟨t.toArray⟩) W:=fun W => by
     have h:=slice_from rd 1 (by omega) W
     rw [show rd.drop 1 = t by rw [hrd];rfl] at h
     exact h
    have hlt0:(0:Int) < ((rd.length:Nat):Int):=by omega
    have h1le:(1:Int) ≤ ((rd.length:Nat):Int):=by omega
    have hc256:c.toNat < 256:=c.toNat_lt;have htl:t.length < rd.length:=by rw [hrd];simp
    by_cases hc:c = 32
    ·have hcb:(((c.toNat:Nat):Int) == 32) = true:=by rw [hc];rfl
     have hcn:(((c.toNat:Nat):Int) != 32) = false:=by rw [hc];rfl
     have hnx:nextD rd = if npc t = 0 then none else some t:=by rw [hrd,hc];exact nextD_space t
     have HPI:=Hh (fun W => rpieces_any t (by omega) W)
     obtain ⟨q,hq⟩:∃ q,npc t = q:=⟨_,rfl⟩;rw [hq] at HPI hnx
     by_cases h0:q = 0
     ·have HE:=Hh (HV1.out (by rw [hnx,if_pos h0]))
      subst h0;clear HV1 HV2 hnx hq hrd hc;generalize c.toNat = C at *;go_wp2_with (at_builtin;refine wpList_more_decs rfl _ _ rfl B v acc (some ⟨w2.heap.size + 1,0,none⟩) 1 1 [(m,e)] rfl HO3.out rfl rfl HL3.out hacc HZ3.out ?_;intro v' w5 HO5 HB5)
      refine (HPI.out _).mono ?_;rintro x w6 ⟨rfl,rfl⟩;go_wp2;go_ret3;obtain ⟨A,c',e1,h1,h2⟩:=HO5.out.decs;rw [HE.out];exact ⟨A,c',by rw [← e1];rfl,h1,h2,by unfold Grow;rw [HBE.out];exact Below.trans HGB3.out HB5.out⟩
     ·have HE:=Hh (HV2.out t (by rw [hnx,if_neg h0]))
      have h0b:(((q:Nat):Int) == 0) = false:=by rw [beq_eq_false_iff_ne];omega
      clear HV1 HV2 hnx hq hrd hc;generalize c.toNat = C at *;go_wp2_with (at_builtin;refine wpList_more_decs rfl _ _ rfl B v acc (some ⟨w2.heap.size + 1,0,none⟩) 1 1 [(m,e)] rfl HO3.out rfl rfl HL3.out hacc HZ3.out ?_;intro v' w5 HO5 HB5)
      refine (HPI.out _).mono ?_;rintro x w6 ⟨rfl,rfl⟩;go_wp2;go_roundg t.length
      case rel => exact ⟨t,acc ++ [(m,e)],v',rfl,rfl,rfl,HO5,HE,by rw [List.length_append,List.length_singleton];omega,Hh (Below.trans HGB3.out HB5.out)⟩
      case measure => omega
    ·have hcb:(((c.toNat:Nat):Int) == 32) = false:=by
      rw [beq_eq_false_iff_ne];intro h;apply hc;apply UInt8.toNat_inj.1;have h32:(32:UInt8).toNat = 32:=rfl;omega
     have hcn:(((c.toNat:Nat):Int) != 32) = true:=by unfold bne;rw [hcb];rfl
     have HE:=Hh (HV1.out (nextD_other (by rw [hrd];simpa using hc)))
     clear HV1 HV2 hrd hc;generalize c.toNat = C at *;go_wp2_with (at_builtin;refine wpList_more_decs rfl _ _ rfl B v acc (some ⟨w2.heap.size + 1,0,none⟩) 1 1 [(m,e)] rfl HO3.out rfl rfl HL3.out hacc HZ3.out ?_;intro v' w5 HO5 HB5)
     go_ret3;obtain ⟨A,c',e1,h1,h2⟩:=HO5.out.decs;rw [HE.out];exact ⟨A,c',by rw [← e1];rfl,h1,h2,by unfold Grow;rw [HBE.out];exact Below.trans HGB3.out HB5.out⟩
end Go.Proofs.YteoogioanjkacaaGreatDoor.Num
namespace Go.Proofs.YteoogioanjkacaaGreatDoor.Quo
open Go.RowKit Go.Lib
theorem more_cons (n c:Nat) (b:UInt8) (r:List UInt8):more (n + 1) c (b :: r) = if goesOn b then more n (64 * c + (b.toNat - 128)) r else none:=rfl
theorem more_short:∀ (n c:Nat) (r:List UInt8),r.length < n → more n c r = none
 | 0,c,r,h => by omega
 | n + 1,c,[],h => rfl
 | n + 1,c,b :: r,h => by
  rw [more_cons];split
  ·exact more_short n _ r (by simpa using h)
  ·rfl
theorem many_none {n least c:Nat} {r:List UInt8} (h:more (n - 1) c r = none):many n least c r = (0,0):=by unfold many;rw [h]
theorem many_some {n least c d:Nat} {r:List UInt8} (h:more (n - 1) c r = some d):many n least c r = if least ≤ d ∧ d ≤ 1114111 ∧ ¬ (55296 ≤ d ∧ d ≤ 57343) then (d,n) else (0,0):=by
 unfold many;rw [h];simp only [isSign_iff]
def Two (p:Nat × Nat) (w:World) (e:Ending) (w':World):Prop:=e = .returned (.tuple #[.int .i64 ((p.1:Nat):Int),.int .i64 ((p.2:Nat):Int)]) ∧ w' = w
theorem rnext_two (b:UInt8) (r:List UInt8) (w:World) (h1:192 ≤ b.toNat) (h2:b.toNat < 224) (hl:r.length ≤ 1000000):Calls Tryz.prog 159 #[.string ⟨(b :: r).toArray⟩] w (Two (many 2 128 (b.toNat - 192) r) w):=by
 obtain ⟨c0,hc0⟩:∃ c0,b.toNat - 192 = c0:=⟨_,rfl⟩;rw [hc0];have hc32:c0 < 32:=by omega
 have hix0:∀ W,(Instr.index 9 (.string ⟨(b :: r).toArray⟩) (.int .i64 0)).run Tryz.prog W = .ok (.int .u8 (b.toNat:Nat)) W:=fun W => index_str (i:=0) rfl W;obtain ⟨B,hB⟩:∃ B:Nat,b.toNat = B:=⟨_,rfl⟩;rw [hB] at hix0 h1 h2 hc0;have hwc:IntKind.i64.wrap ((B:Nat):Int) = ((B:Nat):Int):=by rw [IntKind.wrap_i64];omega
 have hsub:((B:Nat):Int) - 192 = ((c0:Nat):Int):=by omega
 have hws:IntKind.i64.wrap ((c0:Nat):Int) = ((c0:Nat):Int):=by rw [IntKind.wrap_i64];omega
 have t1:¬ ((B:Nat):Int) < 128:=by omega
 have t2:192 ≤ ((B:Nat):Int):=by omega
 have t3:((B:Nat):Int) < 224:=by omega
 clear hB h1 h2 hc0;have HIX:Hid (∀ (i:Nat) (x:UInt8),(b :: r)[i]? = some x → ∀ W,(Instr.index 9 (.string ⟨(b :: r).toArray⟩) (.int .i64 (i:Nat))).run Tryz.prog W = .ok (.int .u8 (x.toNat:Nat)) W):=Hh (fun i x h W => index_str h W)
 have HAT:Hid (∀ (i:Nat),1 ≤ i → i ≤ r.length → ∃ x,(b :: r)[i]? = some x ∧ r.drop (i - 1) = x :: r.drop i):=Hh (fun i h1 h2 => by
  obtain ⟨j,rfl⟩:∃ j,i = j + 1:=⟨i - 1,by omega⟩
  refine ⟨r[j],by simp,?_⟩
  rw [Nat.add_sub_cancel]
  exact List.drop_eq_getElem_cons (by omega))
 obtain ⟨s,hs⟩:∃ s:ByteArray,s = ⟨(b :: r).toArray⟩:=⟨_,rfl⟩;have hsz:s.size = r.length + 1:=by rw [hs,str_size];simp
 rw [← hs] at hix0 HIX ⊢;clear hs;obtain ⟨m,hm⟩:∃ m,s.size = m:=⟨_,rfl⟩;have hmr:m = r.length + 1:=by omega
 have HM:=Hh hmr;clear hsz hmr
 by_cases hlen:m < 2
 ·have HZ:=Hh (many_none (n:=2) (least:=128) (more_short (2 - 1) c0 r (by have:=HM.out;omega)))
  have hlen':((m:Nat):Int) < 2:=by omega
  go_enter Tryz.func159,Tryz.ntmps159
  go_wp2;go_ret2;exact ⟨by rw [HZ.out];rfl,rfl⟩
 have hlen':¬ ((m:Nat):Int) < 2:=by omega
 go_enter Tryz.func159,Tryz.ntmps159
 go_wp2
 go_loopg [4,7] (2 - 1) (fun g s4 s7 wr => ∃ c i:Nat,1 ≤ i ∧ i ≤ 2 ∧ g = 2 - i ∧ s4 = .int .i64 c ∧ s7 = .int .i64 i ∧ ((i = 1 ∧ c < 32) ∨ (i = 2 ∧ c < 2048) ∨ (i = 3 ∧ c < 131072) ∨ (i = 4 ∧ c < 8388608)) ∧ Hid (more (2 - 1) c0 r = more (2 - i) c (r.drop (i - 1))) ∧ w = wr)
 case atStart => exact ⟨c0,1,by omega,by omega,rfl,rfl,rfl,.inl ⟨rfl,hc32⟩,Hh rfl,rfl⟩
 case round =>
  obtain ⟨c,i,hi1,hi2,rfl,rfl,rfl,hb,HMO,rfl⟩:=hrel;have hcb:c < 8388608:=by omega
  by_cases hlt:i < 2
  ·obtain ⟨x,hx,hd⟩:=HAT.out i hi1 (by have:=HM.out;omega)
   have hix:=HIX.out i x hx;have hmo:=HMO.out;rw [hd,show 2 - i = (2 - (i + 1)) + 1 by omega,more_cons] at hmo
   have hx8:=u8_lt x;clear hx hd
   by_cases hg:goesOn x = true
   ·rw [if_pos hg] at hmo
    have hgo:=goesOn_iff.1 hg;obtain ⟨c',hc'⟩:∃ c',64 * c + (x.toNat - 128) = c':=⟨_,rfl⟩;rw [hc'] at hmo;have HMO':=Hh hmo;have ho1:¬ ((x.toNat:Nat):Int) < 128:=by omega
    have ho2:¬ 192 ≤ ((x.toNat:Nat):Int):=by omega
    have hb':(i + 1 = 1 ∧ c' < 32) ∨ (i + 1 = 2 ∧ c' < 2048) ∨ (i + 1 = 3 ∧ c' < 131072) ∨ (i + 1 = 4 ∧ c' < 8388608):=by omega
    have HB:=Hh hb';have hwx:IntKind.i64.wrap ((x.toNat:Nat):Int) = ((x.toNat:Nat):Int):=by rw [IntKind.wrap_i64];omega
    have hw1:IntKind.i64.wrap (64 * ((c:Nat):Int)) = 64 * ((c:Nat):Int):=by rw [IntKind.wrap_i64];omega
    have hw2:IntKind.i64.wrap (64 * ((c:Nat):Int) + ((x.toNat:Nat):Int)) = 64 * ((c:Nat):Int) + ((x.toNat:Nat):Int):=by rw [IntKind.wrap_i64];omega
    have hsm:64 * ((c:Nat):Int) + ((x.toNat:Nat):Int) - 128 = ((c':Nat):Int):=by omega
    clear hmo hg hgo hc' hb' hb HMO;go_wp2;go_roundg (2 - (i + 1))
    case rel => exact ⟨c',i + 1,by omega,by omega,rfl,by first | rfl | go_num,by go_num,HB.out,HMO',rfl⟩
    case measure => omega
   ·rw [if_neg hg] at hmo
    have HZ:=Hh (many_none (least:=128) hmo);have hgo:¬ (128 ≤ x.toNat ∧ x.toNat < 192):=fun h => hg (goesOn_iff.2 h)
    by_cases ho:x.toNat < 128
    ·have ho1:((x.toNat:Nat):Int) < 128:=by omega
     clear hmo hgo hg ho;go_wp2;go_ret2;exact ⟨by rw [HZ.out];rfl,rfl⟩
    ·have ho1:¬ ((x.toNat:Nat):Int) < 128:=by omega
     have ho2:192 ≤ ((x.toNat:Nat):Int):=by omega
     clear hmo hgo hg ho;go_wp2;go_ret2;exact ⟨by rw [HZ.out];rfl,rfl⟩
  ·obtain rfl:i = 2:=by omega
   have hmo:=HMO.out;have HZ:Hid (many 2 128 c0 r = if 128 ≤ c ∧ c ≤ 1114111 ∧ ¬ (55296 ≤ c ∧ c ≤ 57343) then (c,2) else (0,0)):=Hh (many_some (n:=2) (least:=128) hmo)
   clear hmo HMO hb hlt
   by_cases q1:c < 128
   ·rw [if_neg (by omega)] at HZ
    have q1':((c:Nat):Int) < 128:=by omega
    go_wp2;go_ret2;exact ⟨by rw [HZ.out];rfl,rfl⟩
   have q1':¬ ((c:Nat):Int) < 128:=by omega
   by_cases q2:1114111 < c
   ·rw [if_neg (by omega)] at HZ
    have q2':1114111 < ((c:Nat):Int):=by omega
    go_wp2;go_ret2;exact ⟨by rw [HZ.out];rfl,rfl⟩
   have q2':¬ 1114111 < ((c:Nat):Int):=by omega
   by_cases q3:55296 ≤ c
   ·have q3':55296 ≤ ((c:Nat):Int):=by omega
    by_cases q4:c ≤ 57343
    ·rw [if_neg (by omega)] at HZ
     have q4':((c:Nat):Int) ≤ 57343:=by omega
     go_wp2;go_ret2;exact ⟨by rw [HZ.out];rfl,rfl⟩
    ·rw [if_pos (by omega)] at HZ
     have q4':¬ ((c:Nat):Int) ≤ 57343:=by omega
     go_wp2;go_ret2;exact ⟨by rw [HZ.out];rfl,rfl⟩
   ·rw [if_pos (by omega)] at HZ
    have q3':¬ 55296 ≤ ((c:Nat):Int):=by omega
    go_wp2;go_ret2;exact ⟨by rw [HZ.out];rfl,rfl⟩
theorem rnext_three (b:UInt8) (r:List UInt8) (w:World) (h1:224 ≤ b.toNat) (h2:b.toNat < 240) (hl:r.length ≤ 1000000):Calls Tryz.prog 159 #[.string ⟨(b :: r).toArray⟩] w (Two (many 3 2048 (b.toNat - 224) r) w):=by
 obtain ⟨c0,hc0⟩:∃ c0,b.toNat - 224 = c0:=⟨_,rfl⟩;rw [hc0];have hc32:c0 < 32:=by omega
 have hix0:∀ W,(Instr.index 9 (.string ⟨(b :: r).toArray⟩) (.int .i64 0)).run Tryz.prog W = .ok (.int .u8 (b.toNat:Nat)) W:=fun W => index_str (i:=0) rfl W;obtain ⟨B,hB⟩:∃ B:Nat,b.toNat = B:=⟨_,rfl⟩;rw [hB] at hix0 h1 h2 hc0;have hwc:IntKind.i64.wrap ((B:Nat):Int) = ((B:Nat):Int):=by rw [IntKind.wrap_i64];omega
 have hsub:((B:Nat):Int) - 224 = ((c0:Nat):Int):=by omega
 have hws:IntKind.i64.wrap ((c0:Nat):Int) = ((c0:Nat):Int):=by rw [IntKind.wrap_i64];omega
 have t1:¬ ((B:Nat):Int) < 128:=by omega
 have t2:192 ≤ ((B:Nat):Int):=by omega
 have t3:¬ ((B:Nat):Int) < 224:=by omega
 have t4:224 ≤ ((B:Nat):Int):=by omega
 have t5:((B:Nat):Int) < 240:=by omega
 clear hB h1 h2 hc0;have HIX:Hid (∀ (i:Nat) (x:UInt8),(b :: r)[i]? = some x → ∀ W,(Instr.index 9 (.string ⟨(b :: r).toArray⟩) (.int .i64 (i:Nat))).run Tryz.prog W = .ok (.int .u8 (x.toNat:Nat)) W):=Hh (fun i x h W => index_str h W)
 have HAT:Hid (∀ (i:Nat),1 ≤ i → i ≤ r.length → ∃ x,(b :: r)[i]? = some x ∧ r.drop (i - 1) = x :: r.drop i):=Hh (fun i h1 h2 => by
  obtain ⟨j,rfl⟩:∃ j,i = j + 1:=⟨i - 1,by omega⟩
  refine ⟨r[j],by simp,?_⟩
  rw [Nat.add_sub_cancel]
  exact List.drop_eq_getElem_cons (by omega))
 obtain ⟨s,hs⟩:∃ s:ByteArray,s = ⟨(b :: r).toArray⟩:=⟨_,rfl⟩;have hsz:s.size = r.length + 1:=by rw [hs,str_size];simp
 rw [← hs] at hix0 HIX ⊢;clear hs;obtain ⟨m,hm⟩:∃ m,s.size = m:=⟨_,rfl⟩;have hmr:m = r.length + 1:=by omega
 have HM:=Hh hmr;clear hsz hmr
 by_cases hlen:m < 3
 ·have HZ:=Hh (many_none (n:=3) (least:=2048) (more_short (3 - 1) c0 r (by have:=HM.out;omega)))
  have hlen':((m:Nat):Int) < 3:=by omega
  go_enter Tryz.func159,Tryz.ntmps159
  go_wp2;go_ret2;exact ⟨by rw [HZ.out];rfl,rfl⟩
 have hlen':¬ ((m:Nat):Int) < 3:=by omega
 go_enter Tryz.func159,Tryz.ntmps159
 go_wp2
 go_loopg [4,7] (3 - 1) (fun g s4 s7 wr => ∃ c i:Nat,1 ≤ i ∧ i ≤ 3 ∧ g = 3 - i ∧ s4 = .int .i64 c ∧ s7 = .int .i64 i ∧ ((i = 1 ∧ c < 32) ∨ (i = 2 ∧ c < 2048) ∨ (i = 3 ∧ c < 131072) ∨ (i = 4 ∧ c < 8388608)) ∧ Hid (more (3 - 1) c0 r = more (3 - i) c (r.drop (i - 1))) ∧ w = wr)
 case atStart => exact ⟨c0,1,by omega,by omega,rfl,rfl,rfl,.inl ⟨rfl,hc32⟩,Hh rfl,rfl⟩
 case round =>
  obtain ⟨c,i,hi1,hi2,rfl,rfl,rfl,hb,HMO,rfl⟩:=hrel;have hcb:c < 8388608:=by omega
  by_cases hlt:i < 3
  ·obtain ⟨x,hx,hd⟩:=HAT.out i hi1 (by have:=HM.out;omega)
   have hix:=HIX.out i x hx;have hmo:=HMO.out;rw [hd,show 3 - i = (3 - (i + 1)) + 1 by omega,more_cons] at hmo
   have hx8:=u8_lt x;clear hx hd
   by_cases hg:goesOn x = true
   ·rw [if_pos hg] at hmo
    have hgo:=goesOn_iff.1 hg;obtain ⟨c',hc'⟩:∃ c',64 * c + (x.toNat - 128) = c':=⟨_,rfl⟩;rw [hc'] at hmo;have HMO':=Hh hmo;have ho1:¬ ((x.toNat:Nat):Int) < 128:=by omega
    have ho2:¬ 192 ≤ ((x.toNat:Nat):Int):=by omega
    have hb':(i + 1 = 1 ∧ c' < 32) ∨ (i + 1 = 2 ∧ c' < 2048) ∨ (i + 1 = 3 ∧ c' < 131072) ∨ (i + 1 = 4 ∧ c' < 8388608):=by omega
    have HB:=Hh hb';have hwx:IntKind.i64.wrap ((x.toNat:Nat):Int) = ((x.toNat:Nat):Int):=by rw [IntKind.wrap_i64];omega
    have hw1:IntKind.i64.wrap (64 * ((c:Nat):Int)) = 64 * ((c:Nat):Int):=by rw [IntKind.wrap_i64];omega
    have hw2:IntKind.i64.wrap (64 * ((c:Nat):Int) + ((x.toNat:Nat):Int)) = 64 * ((c:Nat):Int) + ((x.toNat:Nat):Int):=by rw [IntKind.wrap_i64];omega
    have hsm:64 * ((c:Nat):Int) + ((x.toNat:Nat):Int) - 128 = ((c':Nat):Int):=by omega
    clear hmo hg hgo hc' hb' hb HMO;go_wp2;go_roundg (3 - (i + 1))
    case rel => exact ⟨c',i + 1,by omega,by omega,rfl,by first | rfl | go_num,by go_num,HB.out,HMO',rfl⟩
    case measure => omega
   ·rw [if_neg hg] at hmo
    have HZ:=Hh (many_none (least:=2048) hmo);have hgo:¬ (128 ≤ x.toNat ∧ x.toNat < 192):=fun h => hg (goesOn_iff.2 h)
    by_cases ho:x.toNat < 128
    ·have ho1:((x.toNat:Nat):Int) < 128:=by omega
     clear hmo hgo hg ho;go_wp2;go_ret2;exact ⟨by rw [HZ.out];rfl,rfl⟩
    ·have ho1:¬ ((x.toNat:Nat):Int) < 128:=by omega
     have ho2:192 ≤ ((x.toNat:Nat):Int):=by omega
     clear hmo hgo hg ho;go_wp2;go_ret2;exact ⟨by rw [HZ.out];rfl,rfl⟩
  ·obtain rfl:i = 3:=by omega
   have hmo:=HMO.out;have HZ:Hid (many 3 2048 c0 r = if 2048 ≤ c ∧ c ≤ 1114111 ∧ ¬ (55296 ≤ c ∧ c ≤ 57343) then (c,3) else (0,0)):=Hh (many_some (n:=3) (least:=2048) hmo)
   clear hmo HMO hb hlt
   by_cases q1:c < 2048
   ·rw [if_neg (by omega)] at HZ
    have q1':((c:Nat):Int) < 2048:=by omega
    go_wp2;go_ret2;exact ⟨by rw [HZ.out];rfl,rfl⟩
   have q1':¬ ((c:Nat):Int) < 2048:=by omega
   by_cases q2:1114111 < c
   ·rw [if_neg (by omega)] at HZ
    have q2':1114111 < ((c:Nat):Int):=by omega
    go_wp2;go_ret2;exact ⟨by rw [HZ.out];rfl,rfl⟩
   have q2':¬ 1114111 < ((c:Nat):Int):=by omega
   by_cases q3:55296 ≤ c
   ·have q3':55296 ≤ ((c:Nat):Int):=by omega
    by_cases q4:c ≤ 57343
    ·rw [if_neg (by omega)] at HZ
     have q4':((c:Nat):Int) ≤ 57343:=by omega
     go_wp2;go_ret2;exact ⟨by rw [HZ.out];rfl,rfl⟩
    ·rw [if_pos (by omega)] at HZ
     have q4':¬ ((c:Nat):Int) ≤ 57343:=by omega
     go_wp2;go_ret2;exact ⟨by rw [HZ.out];rfl,rfl⟩
   ·rw [if_pos (by omega)] at HZ
    have q3':¬ 55296 ≤ ((c:Nat):Int):=by omega
    go_wp2;go_ret2;exact ⟨by rw [HZ.out];rfl,rfl⟩
theorem rnext_four (b:UInt8) (r:List UInt8) (w:World) (h1:240 ≤ b.toNat) (h2:b.toNat < 248) (hl:r.length ≤ 1000000):Calls Tryz.prog 159 #[.string ⟨(b :: r).toArray⟩] w (Two (many 4 65536 (b.toNat - 240) r) w):=by
 obtain ⟨c0,hc0⟩:∃ c0,b.toNat - 240 = c0:=⟨_,rfl⟩;rw [hc0];have hc32:c0 < 32:=by omega
 have hix0:∀ W,(Instr.index 9 (.string ⟨(b :: r).toArray⟩) (.int .i64 0)).run Tryz.prog W = .ok (.int .u8 (b.toNat:Nat)) W:=fun W => index_str (i:=0) rfl W;obtain ⟨B,hB⟩:∃ B:Nat,b.toNat = B:=⟨_,rfl⟩;rw [hB] at hix0 h1 h2 hc0;have hwc:IntKind.i64.wrap ((B:Nat):Int) = ((B:Nat):Int):=by rw [IntKind.wrap_i64];omega
 have hsub:((B:Nat):Int) - 240 = ((c0:Nat):Int):=by omega
 have hws:IntKind.i64.wrap ((c0:Nat):Int) = ((c0:Nat):Int):=by rw [IntKind.wrap_i64];omega
 have t1:¬ ((B:Nat):Int) < 128:=by omega
 have t2:192 ≤ ((B:Nat):Int):=by omega
 have t3:¬ ((B:Nat):Int) < 224:=by omega
 have t4:224 ≤ ((B:Nat):Int):=by omega
 have t5:¬ ((B:Nat):Int) < 240:=by omega
 have t6:240 ≤ ((B:Nat):Int):=by omega
 have t7:((B:Nat):Int) < 248:=by omega
 clear hB h1 h2 hc0;have HIX:Hid (∀ (i:Nat) (x:UInt8),(b :: r)[i]? = some x → ∀ W,(Instr.index 9 (.string ⟨(b :: r).toArray⟩) (.int .i64 (i:Nat))).run Tryz.prog W = .ok (.int .u8 (x.toNat:Nat)) W):=Hh (fun i x h W => index_str h W)
 have HAT:Hid (∀ (i:Nat),1 ≤ i → i ≤ r.length → ∃ x,(b :: r)[i]? = some x ∧ r.drop (i - 1) = x :: r.drop i):=Hh (fun i h1 h2 => by
  obtain ⟨j,rfl⟩:∃ j,i = j + 1:=⟨i - 1,by omega⟩
  refine ⟨r[j],by simp,?_⟩
  rw [Nat.add_sub_cancel]
  exact List.drop_eq_getElem_cons (by omega))
 obtain ⟨s,hs⟩:∃ s:ByteArray,s = ⟨(b :: r).toArray⟩:=⟨_,rfl⟩;have hsz:s.size = r.length + 1:=by rw [hs,str_size];simp
 rw [← hs] at hix0 HIX ⊢;clear hs;obtain ⟨m,hm⟩:∃ m,s.size = m:=⟨_,rfl⟩;have hmr:m = r.length + 1:=by omega
 have HM:=Hh hmr;clear hsz hmr
 by_cases hlen:m < 4
 ·have HZ:=Hh (many_none (n:=4) (least:=65536) (more_short (4 - 1) c0 r (by have:=HM.out;omega)))
  have hlen':((m:Nat):Int) < 4:=by omega
  go_enter Tryz.func159,Tryz.ntmps159
  go_wp2;go_ret2;exact ⟨by rw [HZ.out];rfl,rfl⟩
 have hlen':¬ ((m:Nat):Int) < 4:=by omega
 go_enter Tryz.func159,Tryz.ntmps159
 go_wp2
 go_loopg [4,7] (4 - 1) (fun g s4 s7 wr => ∃ c i:Nat,1 ≤ i ∧ i ≤ 4 ∧ g = 4 - i ∧ s4 = .int .i64 c ∧ s7 = .int .i64 i ∧ ((i = 1 ∧ c < 32) ∨ (i = 2 ∧ c < 2048) ∨ (i = 3 ∧ c < 131072) ∨ (i = 4 ∧ c < 8388608)) ∧ Hid (more (4 - 1) c0 r = more (4 - i) c (r.drop (i - 1))) ∧ w = wr)
 case atStart => exact ⟨c0,1,by omega,by omega,rfl,rfl,rfl,.inl ⟨rfl,hc32⟩,Hh rfl,rfl⟩
 case round =>
  obtain ⟨c,i,hi1,hi2,rfl,rfl,rfl,hb,HMO,rfl⟩:=hrel;have hcb:c < 8388608:=by omega
  by_cases hlt:i < 4
  ·obtain ⟨x,hx,hd⟩:=HAT.out i hi1 (by have:=HM.out;omega)
   have hix:=HIX.out i x hx;have hmo:=HMO.out;rw [hd,show 4 - i = (4 - (i + 1)) + 1 by omega,more_cons] at hmo
   have hx8:=u8_lt x;clear hx hd
   by_cases hg:goesOn x = true
   ·rw [if_pos hg] at hmo
    have hgo:=goesOn_iff.1 hg;obtain ⟨c',hc'⟩:∃ c',64 * c + (x.toNat - 128) = c':=⟨_,rfl⟩;rw [hc'] at hmo;have HMO':=Hh hmo;have ho1:¬ ((x.toNat:Nat):Int) < 128:=by omega
    have ho2:¬ 192 ≤ ((x.toNat:Nat):Int):=by omega
    have hb':(i + 1 = 1 ∧ c' < 32) ∨ (i + 1 = 2 ∧ c' < 2048) ∨ (i + 1 = 3 ∧ c' < 131072) ∨ (i + 1 = 4 ∧ c' < 8388608):=by omega
    have HB:=Hh hb';have hwx:IntKind.i64.wrap ((x.toNat:Nat):Int) = ((x.toNat:Nat):Int):=by rw [IntKind.wrap_i64];omega
    have hw1:IntKind.i64.wrap (64 * ((c:Nat):Int)) = 64 * ((c:Nat):Int):=by rw [IntKind.wrap_i64];omega
    have hw2:IntKind.i64.wrap (64 * ((c:Nat):Int) + ((x.toNat:Nat):Int)) = 64 * ((c:Nat):Int) + ((x.toNat:Nat):Int):=by rw [IntKind.wrap_i64];omega
    have hsm:64 * ((c:Nat):Int) + ((x.toNat:Nat):Int) - 128 = ((c':Nat):Int):=by omega
    clear hmo hg hgo hc' hb' hb HMO;go_wp2;go_roundg (4 - (i + 1))
    case rel => exact ⟨c',i + 1,by omega,by omega,rfl,by first | rfl | go_num,by go_num,HB.out,HMO',rfl⟩
    case measure => omega
   ·rw [if_neg hg] at hmo
    have HZ:=Hh (many_none (least:=65536) hmo);have hgo:¬ (128 ≤ x.toNat ∧ x.toNat < 192):=fun h => hg (goesOn_iff.2 h)
    by_cases ho:x.toNat < 128
    ·have ho1:((x.toNat:Nat):Int) < 128:=by omega
     clear hmo hgo hg ho;go_wp2;go_ret2;exact ⟨by rw [HZ.out];rfl,rfl⟩
    ·have ho1:¬ ((x.toNat:Nat):Int) < 128:=by omega
     have ho2:192 ≤ ((x.toNat:Nat):Int):=by omega
     clear hmo hgo hg ho;go_wp2;go_ret2;exact ⟨by rw [HZ.out];rfl,rfl⟩
  ·obtain rfl:i = 4:=by omega
   have hmo:=HMO.out;have HZ:Hid (many 4 65536 c0 r = if 65536 ≤ c ∧ c ≤ 1114111 ∧ ¬ (55296 ≤ c ∧ c ≤ 57343) then (c,4) else (0,0)):=Hh (many_some (n:=4) (least:=65536) hmo)
   clear hmo HMO hb hlt
   by_cases q1:c < 65536
   ·rw [if_neg (by omega)] at HZ
    have q1':((c:Nat):Int) < 65536:=by omega
    go_wp2;go_ret2;exact ⟨by rw [HZ.out];rfl,rfl⟩
   have q1':¬ ((c:Nat):Int) < 65536:=by omega
   by_cases q2:1114111 < c
   ·rw [if_neg (by omega)] at HZ
    have q2':1114111 < ((c:Nat):Int):=by omega
    go_wp2;go_ret2;exact ⟨by rw [HZ.out];rfl,rfl⟩
   have q2':¬ 1114111 < ((c:Nat):Int):=by omega
   by_cases q3:55296 ≤ c
   ·have q3':55296 ≤ ((c:Nat):Int):=by omega
    by_cases q4:c ≤ 57343
    ·rw [if_neg (by omega)] at HZ
     have q4':((c:Nat):Int) ≤ 57343:=by omega
     go_wp2;go_ret2;exact ⟨by rw [HZ.out];rfl,rfl⟩
    ·rw [if_pos (by omega)] at HZ
     have q4':¬ ((c:Nat):Int) ≤ 57343:=by omega
     go_wp2;go_ret2;exact ⟨by rw [HZ.out];rfl,rfl⟩
   ·rw [if_pos (by omega)] at HZ
    have q3':¬ 55296 ≤ ((c:Nat):Int):=by omega
    go_wp2;go_ret2;exact ⟨by rw [HZ.out];rfl,rfl⟩
theorem rnext_any (l:List UInt8) (w:World) (hne:l ≠ []) (hl:l.length ≤ 1000000):Calls Tryz.prog 159 #[.string ⟨l.toArray⟩] w (Two (nextD l) w):=by
 rcases l with _ | ⟨b,r⟩
 ·exact absurd rfl hne
 have hr:r.length ≤ 1000000:=by simp at hl;omega
 have hb8:=u8_lt b;rw [nextD_cons];have hix0:∀ W,(Instr.index 9 (.string ⟨(b :: r).toArray⟩) (.int .i64 0)).run Tryz.prog W = .ok (.int .u8 (b.toNat:Nat)) W:=fun W => index_str (i:=0) rfl W
 by_cases h1:b.toNat < 128
 ·rw [if_pos h1]
  obtain ⟨s,hs⟩:∃ s:ByteArray,s = ⟨(b :: r).toArray⟩:=⟨_,rfl⟩;rw [← hs] at hix0 ⊢;have h1':((b.toNat:Nat):Int) < 128:=by omega
  have hw:IntKind.i64.wrap ((b.toNat:Nat):Int) = ((b.toNat:Nat):Int):=by rw [IntKind.wrap_i64];omega
  clear hs hne hl hr hb8 h1
  go_enter Tryz.func159,Tryz.ntmps159
  go_wp2;go_ret2;exact ⟨rfl,rfl⟩
 rw [if_neg h1]
 by_cases h2:b.toNat < 192
 ·rw [if_pos h2]
  obtain ⟨s,hs⟩:∃ s:ByteArray,s = ⟨(b :: r).toArray⟩:=⟨_,rfl⟩;rw [← hs] at hix0 ⊢;have h1':¬ ((b.toNat:Nat):Int) < 128:=by omega
  have h2':¬ 192 ≤ ((b.toNat:Nat):Int):=by omega
  have h3':¬ 224 ≤ ((b.toNat:Nat):Int):=by omega
  have h4':¬ 240 ≤ ((b.toNat:Nat):Int):=by omega
  have hw:IntKind.i64.wrap ((b.toNat:Nat):Int) = ((b.toNat:Nat):Int):=by rw [IntKind.wrap_i64];omega
  clear hs hne hl hr hb8 h1 h2
  go_enter Tryz.func159,Tryz.ntmps159
  go_wp2;go_ret2;exact ⟨rfl,rfl⟩
 rw [if_neg h2]
 by_cases h3:b.toNat < 224
 ·rw [if_pos h3]
  exact rnext_two b r w (by omega) h3 hr
 rw [if_neg h3]
 by_cases h4:b.toNat < 240
 ·rw [if_pos h4]
  exact rnext_three b r w (by omega) h4 hr
 rw [if_neg h4]
 by_cases h5:b.toNat < 248
 ·rw [if_pos h5]
  exact rnext_four b r w (by omega) h5 hr
 ·rw [if_neg h5]
  obtain ⟨s,hs⟩:∃ s:ByteArray,s = ⟨(b :: r).toArray⟩:=⟨_,rfl⟩;rw [← hs] at hix0 ⊢;have h1':¬ ((b.toNat:Nat):Int) < 128:=by omega
  have h2':192 ≤ ((b.toNat:Nat):Int):=by omega
  have h3':¬ ((b.toNat:Nat):Int) < 224:=by omega
  have h4':224 ≤ ((b.toNat:Nat):Int):=by omega
  have h5':¬ ((b.toNat:Nat):Int) < 240:=by omega
  have h6':240 ≤ ((b.toNat:Nat):Int):=by omega
  have h7':¬ ((b.toNat:Nat):Int) < 248:=by omega
  have hw:IntKind.i64.wrap ((b.toNat:Nat):Int) = ((b.toNat:Nat):Int):=by rw [IntKind.wrap_i64];omega
  clear hs hne hl hr hb8 h1 h2 h3 h4 h5
  go_enter Tryz.func159,Tryz.ntmps159
  go_wp2;go_ret2;exact ⟨rfl,rfl⟩
open Go.RowKit Go.Lib
theorem next_le {l:List UInt8} (h:(nextD l).2 ≠ 0):(nextD l).2 ≤ l.length:=by
 obtain ⟨_,h2,h3⟩:=next_inv h;have:=congrArg List.length h2;rw [List.length_append,List.length_drop] at this;omega
theorem info3:(Tryz.prog.info? 3).map (fun i => (i.zero,i.size,i.bytes)) = some (some (.int .i64 0),1,8):=by kernel_rfl
def natCells (q:List Nat):List Value:=q.map fun n => .int .i64 ((n:Nat):Int)
theorem natCells_app (a b:List Nat):natCells (a ++ b) = natCells a ++ natCells b:=by simp [natCells]
theorem natCells_one (l:List Nat):∀ u ∈ natCells l,u.oneCell' = true:=by
 intro u hu;simp only [natCells,List.mem_map] at hu;obtain ⟨c,_,rfl⟩:=hu;rfl
def OwnN (B:Nat) (v:Value) (q:List Nat) (w:World):Prop:=w.ownsRow B 3 1 v q.length (natCells q)
theorem ownN_nil (B:Nat) (w:World):OwnN B (.slice none 0 0) [] w:=World.ownsRow_nil _ _ _ _
theorem OwnN.grow {B:Nat} {v:Value} {q:List Nat} {w w':World} (h:OwnN B v q w) (hg:Grow w w'):OwnN B v q w':=by
 refine ⟨h.1,?_⟩
 rcases h.2 with h0 | ⟨g',cap',cur,hv,hbg,hgg,rest⟩
 ·exact .inl h0
 ·exact .inr ⟨g',cap',cur,hv,hbg,(hg.block g' (heap_lt hgg)).trans hgg,rest⟩
theorem wpList_append_num {ops:Array Oper} {rest:List Oper} {o:Oper} {a:Act} {w:World} {Q:Exit → Act → World → Prop} (hgd:o.guard = none) (s x:Operand)
  (ho:o.op = .call { callee:=.builtin .append,args:=#[s,x],argTypes:=#[31,31] }) (B:Nat) (v:Value) (q p:List Nat) (m c:Nat)
  (hs:a.eval s = v) (hown:OwnN B v q w) (hx:a.eval x = .slice (some ⟨w.heap.size,0,none⟩) m c) (hm:m = p.length) (hb:(q.length + p.length) * 8 ≤ 140737488355328) (hbase:B ≤ w.heap.size)
  (h:∀ v' w',OwnN B v' (q ++ p) w' → Below B w w' → wpList Tryz.prog ops Q rest (a.put o.dst v') w'):wpList Tryz.prog ops Q (o :: rest) a (w.alloc (.cells (natCells p).toArray 3)):=by
 obtain ⟨i0,hi,hz0,hz1,hz2⟩:=info_of info3;subst hm;have hown':OwnN B v q (w.alloc (.cells (natCells p).toArray 3)):=hown.grow (grow_new _ _)
 refine wpList_append_own _ hgd s x 31 ho B 3 i0 (.int .i64 0) 1 8 Tryz.underlying31 hi hz0 hz1 hz2 rfl (by decide) v q.length (natCells q) hs hown' ⟨w.heap.size,0,none⟩ p.length c (natCells p) hx (by simp [natCells]) (fun j u hj => by
   rw [Addr.add_lit,World.cell?_alloc_new]
   simpa using hj) (natCells_one p) (by unfold maxLen;omega) (by omega) (by simp;omega) ?_
 intro v' w' h2 hgrow _;refine h v' w' ?_ (Below.trans (Below.mono (grow_new w _) hbase) (Below.grown (Below.refl _ _) hgrow (by simp;omega) (fun g hg => (hown'.lt g hg).1)))
 unfold OwnN;rw [List.length_append,natCells_app];exact h2
theorem list_cases (l:List UInt8):l = [] ∨ ∃ c t,l = c :: t:=by cases l with
 | nil => exact .inl rfl
 | cons c t => exact .inr ⟨c,t,rfl⟩
structure SigAt (l:List UInt8) (w:World) (rest:List UInt8) (done:List Nat) (v:Value) (wr:World):Prop where
 eq:signsD l = (signsD rest).map (done ++ ·)
 le:done.length + rest.length ≤ l.length
 own:OwnN w.heap.size v done wr
 grow:Grow w wr
def SignsOf (l:List UInt8) (w:World) (e:Ending) (w':World):Prop :=
 ∃ v,e = .returned (.tuple #[v,.bool (signsD l).isSome]) ∧ OwnN w.heap.size v ((signsD l).getD []) w' ∧ Grow w w'
theorem rsigns_any (l:List UInt8) (w:World) (hl:l.length ≤ 1000000):Calls Tryz.prog 134 #[.string ⟨l.toArray⟩] w (SignsOf l w):=by
 go_enter Tryz.func134,Tryz.ntmps134
 go_wp2
 go_loopg [0,4] l.length (fun g s0 s4 wr => ∃ (R:List UInt8) (done:List Nat) (v:Value),g = R.length ∧ s0 = .string ⟨R.toArray⟩ ∧ v = s4 ∧ SigAt l w R done v wr)
 case atStart =>
  refine ⟨l,[],_,rfl,rfl,rfl,?_,by simp,ownN_nil _ _,Grow.refl _⟩
  cases signsD l with
  | none => rfl
  | some u => rfl
 case round =>
  obtain ⟨R,done,v,rfl,rfl,rfl,hat⟩:=hrel;have HA:=Hh hat
  rcases list_cases R with hR | ⟨x,t,hR⟩
  ·subst hR
   have HS:Hid (signsD l = some done):=Hh (by rw [hat.eq,signsD_nil];simp)
   clear hat;go_wp2;go_ret2;exact ⟨_,by rw [HS.out];rfl,by rw [HS.out];exact HA.out.own,HA.out.grow⟩
  ·have hne:(R == []) = false:=by rw [hR];rfl
   have hnil:R ≠ []:=by rw [hR];simp
   have hRl:R.length ≤ 1000000:=by have:=hat.le;omega
   have hdl:done.length ≤ 1000000:=by have:=hat.le;omega
   obtain ⟨c,hc⟩:∃ c,(nextD R).1 = c:=⟨_,rfl⟩;obtain ⟨n,hn⟩:∃ n,(nextD R).2 = n:=⟨_,rfl⟩;have hcn:nextD R = (c,n):=Prod.ext hc hn;have HN:=Hh (rnext_any R wr hnil hRl);rw [hcn] at HN;have hst:=signsD_step hnil;rw [hcn] at hst;simp only at hst
   by_cases h0:n = 0
   ·subst h0
    rw [if_pos rfl] at hst;have HS:Hid (signsD l = none):=Hh (by rw [hat.eq,hst];rfl)
    clear hat hR hnil hc hn hcn hst;go_wp2_with fail;refine (HN.out).mono ?_;rintro e w2 ⟨rfl,rfl⟩;go_wp2;go_ret2;exact ⟨_,by rw [HS.out];rfl,by rw [HS.out];exact ownN_nil _ _,HA.out.grow⟩
   ·rw [if_neg h0] at hst
    have hle:n ≤ R.length:=by have:=next_le (l:=R) (by rw [hcn];exact h0);rw [hcn] at this;exact this
    have hsl:=slice_from R n hle;have hn0:(((n:Nat):Int) == 0) = false:=by rw [beq_eq_false_iff_ne];omega
    have HE:Hid (signsD l = (signsD (R.drop n)).map ((done ++ [c]) ++ ·)):=Hh (by
     rw [hat.eq,hst]
     cases signsD (R.drop n) with
     | none => rfl
     | some u => simp)
    have hlt:(R.drop n).length < R.length:=by rw [List.length_drop];omega
    have hll:(done ++ [c]).length + (R.drop n).length ≤ l.length:=by rw [List.length_append,List.length_drop,List.length_singleton];have:=hat.le;omega
    have HW:Hid (∀ W:World,W.alloc (.cells #[.int .i64 ((c:Nat):Int)] 3) = W.alloc (.cells (natCells [c]).toArray 3)):=Hh (fun _ => rfl);have hsz:w.heap.size ≤ wr.heap.size:=hat.grow.size;clear hat hR hnil hc hn hcn hst h0 hle;go_wp2_with fail;refine (HN.out).mono ?_;rintro e w2 ⟨rfl,rfl⟩;go_wp2_with (at_builtin;rw [HW.out];refine wpList_append_num rfl _ _ rfl w.heap.size v done [c] 1 1 rfl HA.out.own rfl rfl (by simp only [List.length_cons,List.length_nil];omega) hsz ?_;intro v1 w3 ho1 hb1)
    have HK:Hid (SigAt l w (R.drop n) (done ++ [c]) v1 w3):=Hh ⟨HE.out,hll,ho1,Below.trans HA.out.grow hb1⟩;clear ho1 hb1;go_wp2;go_roundg (R.drop n).length
    case rel => exact ⟨R.drop n,_,_,rfl,rfl,rfl,HK.out⟩
    case measure => exact hlt
open Go.RowKit Go.Lib
theorem readQ_ref (t:List UInt8):readQ (39 :: t) = refQ t:=by rw [readQ_cons,if_pos rfl,read_ref]
def ScanAt (t:List UInt8) (inn r:List UInt8):Prop:=scanQ t = (scanQ r).map fun p => (inn ++ p.1,p.2)
theorem scanAt_start (t:List UInt8):ScanAt t [] t:=by
 unfold ScanAt
 cases scanQ t <;> simp
theorem scanAt_other {t inn r:List UInt8} {x:UInt8} (h:ScanAt t inn (x :: r)) (hx:x ≠ 39):ScanAt t (inn ++ [x]) r:=by
 unfold ScanAt at h ⊢;rw [h,scan_other hx]
 cases scanQ r <;> simp
theorem scanAt_two {t inn r:List UInt8} (h:ScanAt t inn (39 :: 39 :: r)):ScanAt t (inn ++ [39]) r:=by
 unfold ScanAt at h ⊢;rw [h,scan_two]
 cases scanQ r <;> simp
theorem scanAt_end {t inn r:List UInt8} (h:ScanAt t inn (39 :: r)) (hr:r.head? ≠ some 39):refQ t = (signsD inn).map fun cs => (cs,r):=by
 unfold ScanAt at h;unfold refQ;rw [h,scan_end hr];simp
theorem scanAt_none {t inn:List UInt8} (h:ScanAt t inn []):refQ t = none:=by
 unfold ScanAt at h;unfold refQ;rw [h,show scanQ [] = none from by rw [scanQ.eq_def]]
 rfl
theorem mkL_ref {t:List UInt8} {p:Option (List Nat × List UInt8)} (h:refQ t = p):mkL (readQ (39 :: t)) = mkL p:=by rw [readQ_ref,h]
theorem u8_ne39 {x:UInt8} (h:x ≠ 39):¬ ((x.toNat:Nat):Int) = 39:=fun e => h (UInt8.toNat_inj.1 (by
 have h2:x.toNat = 39:=by omega
 exact h2))
theorem list_step (l:List UInt8) (i:Nat):(l.drop i = [] ∧ l.length ≤ i) ∨ ∃ x,l[i]? = some x ∧ l.drop i = x :: l.drop (i + 1) ∧ i < l.length:=by
 by_cases h:i < l.length
 ·exact .inr ⟨l[i],by simp [h],List.drop_eq_getElem_cons h,h⟩
 ·exact .inl ⟨List.drop_of_length_le (by omega),by omega⟩
theorem OwnN.newT {B:Nat} {v:Value} {q:List Nat} {w:World} (h:OwnN B v q w):∃ A cap,v = .slice A q.length cap ∧ q.length ≤ cap ∧ NumsT (fun b => B ≤ b ∧ b < w.heap.size) w A (intsZ q):=by
 rcases h.2 with ⟨rfl,h0⟩ | ⟨g,cap,cur,rfl,hbg,hgg,hnc,_,hsz,htake⟩
 ·have hq:q = []:=List.eq_nil_of_length_eq_zero h0
  subst hq;exact ⟨none,0,rfl,Nat.le_refl _,fun h => absurd h (by simp [intsZ])⟩
 ·refine ⟨_,cap,rfl,hnc,fun _ => ⟨g,0,rfl,⟨hbg,heap_lt hgg⟩,fun i hi => ?_⟩⟩
  rw [ints_len] at hi;rw [cell_of_row w g (0 + i) cur 3 (0,0) hgg,Nat.zero_add];have h1:(cur.toList.take (q.length * 1))[i]? = (natCells q)[i]?:=by rw [htake]
  rw [List.getElem?_take,if_pos (by omega),Array.getElem?_toList] at h1
  rw [h1];simp [natCells,intsZ,hi]
theorem rread_any (l:List UInt8) (hl:l.length ≤ 100000) (w:World) :
  Calls Tryz.prog 98 #[.string ⟨l.toArray⟩] w (ReadP (mkL (readQ l)).1 (mkL (readQ l)).2.1 (mkL (readQ l)).2.2 w):=by
 rcases l with _ | ⟨a,t⟩
 ·go_enter Tryz.func98,Tryz.ntmps98
  go_wp2;go_ret3;exact ⟨none,0,rfl,Nat.le_refl _,(fun h => absurd h (by simp [mkL,readQ])),Grow.refl _⟩
 have hix0:∀ W,(Instr.index 9 (.string ⟨(a :: t).toArray⟩) (.int .i64 0)).run Tryz.prog W = .ok (.int .u8 (a.toNat:Nat)) W:=fun W => index_str (l:=a :: t) (i:=0) rfl W;have hne0:((a :: t:List UInt8) == []) = false:=rfl
 by_cases ha:a = 39
 case neg =>
  have hq:mkL (readQ (a :: t)) = ([],[],false):=by rw [readQ_cons,if_neg ha];rfl
  have hb:a.toNat ≠ 39:=fun e => ha (UInt8.toNat_inj.1 e);rw [hq];generalize a :: t = l at *;generalize a.toNat = C at *;have hCb:(((C:Nat):Int) != 39) = true:=by rw [bne_iff_ne];omega
  clear ha hb hq
  go_enter Tryz.func98,Tryz.ntmps98
  go_wp2;go_ret3;exact ⟨none,0,rfl,Nat.le_refl _,(fun h => absurd h (by simp [mkL,readQ])),Grow.refl _⟩
 subst ha;obtain ⟨m,hm⟩:∃ m,mkL (readQ (39 :: t)) = m:=⟨_,rfl⟩;have HM:=Hh (fun p (h:refQ t = p) => hm.symm.trans (mkL_ref h));have hst:ScanAt t [] ((39 :: t).drop 1):=scanAt_start t;rw [hm];clear hm;obtain ⟨l,hle⟩:∃ l,39 :: t = l:=⟨_,rfl⟩;rw [hle] at hix0 hne0 hl hst ⊢;replace hix0:∀ W,(Instr.index 9 (.string ⟨l.toArray⟩) (.int .i64 0)).run Tryz.prog W = .ok (.int .u8 39) W:=hix0;have hl1:1 ≤ l.length:=by rw [← hle];simp
 have HS0:=Hh hst;have HSG:=Hh (fun x W (h:x.length ≤ 1000000) => rsigns_any x W h);clear hst hle;have hix:∀ (i:Nat) (x:UInt8),l[i]? = some x → ∀ W,(Instr.index 9 (.string ⟨l.toArray⟩) (.int .i64 (i:Nat))).run Tryz.prog W = .ok (.int .u8 (x.toNat:Nat)) W:=fun i x h W => index_str h W;have HIX:=Hh hix;clear hix
 go_enter Tryz.func98,Tryz.ntmps98
 go_wp2
 go_loopg [5,6] (l.length - 1) (fun g s5 s6 wr => ∃ (i:Nat) (inn:List UInt8),i ≤ l.length + 1 ∧ g = l.length - i ∧ s5 = .string ⟨inn.toArray⟩ ∧ s6 = .int .i64 i ∧ inn.length ≤ i ∧ Hid (ScanAt t inn (l.drop i)) ∧ w = wr)
 case atStart => exact ⟨1,[],by omega,rfl,rfl,rfl,by simp,HS0,rfl⟩
 case round =>
  obtain ⟨i,inn,hi,rfl,rfl,rfl,hil,HSC,rfl⟩:=hrel;clear HS0;have hw1:IntKind.i64.wrap (((i:Nat):Int) + 1) = ((i:Nat):Int) + 1:=by rw [IntKind.wrap_i64];omega
  have hw2:IntKind.i64.wrap (((i:Nat):Int) + 1 + 1) = ((i:Nat):Int) + 1 + 1:=by rw [IntKind.wrap_i64];omega
  rcases list_step l i with ⟨hd,hge⟩ | ⟨x,hx,hd,hlt⟩
  ·have HV:=Hh (HM.out _ (scanAt_none (by have:=HSC.out;rwa [hd] at this)))
   clear HM HSC HSG HIX hd;go_wp2;go_ret3;rw [HV.out];exact ⟨none,0,rfl,Nat.le_refl _,(fun h => absurd h (by simp [mkL,readQ])),Grow.refl _⟩
  have hixi:=HIX.out i x hx;rw [hd] at HSC
  by_cases hx39:x = 39
  case neg =>
   have HN:=Hh (scanAt_other HSC.out hx39);have hxb:(((x.toNat:Nat):Int) != 39) = true:=by rw [bne_iff_ne];exact u8_ne39 hx39
   have hsl:=slice_two l i (i + 1) (by omega) (by omega)
   rw [show (l.take (i + 1)).drop i = [x] by
    have h1:=(List.getElem?_eq_some_iff.1 hx).2;rw [List.take_succ_eq_append_getElem hlt,List.drop_append_of_le_length (by rw [List.length_take];omega),List.drop_of_length_le (by rw [List.length_take];omega),h1]
    rfl] at hsl
   push_cast at hsl
   have hcat:=str_app inn [x];have hs1:¬ 9223372036854775807 < inn.length + 1:=by omega
   clear HM HSG HIX hd hx HSC hx39 hix0 hne0;generalize x.toNat = C at *;go_wp2;go_roundg (l.length - (i + 1))
   case rel => exact ⟨i + 1,inn ++ [x],by omega,rfl,rfl,by go_num,by rw [List.length_append,List.length_singleton];omega,HN,rfl⟩
   case measure => omega
  subst hx39;replace hixi:∀ W,(Instr.index 9 (.string ⟨l.toArray⟩) (.int .i64 (i:Nat))).run Tryz.prog W = .ok (.int .u8 39) W:=hixi
  rcases list_step l (i + 1) with ⟨hd2,hge2⟩ | ⟨y,hy,hd2,hlt2⟩
  ·have HR:=Hh (scanAt_end HSC.out (by rw [hd2];simp))
   have hdl:i + 1 = l.length:=by omega
   have hsl:=slice_from l (i + 1) (by omega)
   push_cast at hsl
   have HG:=Hh (HSG.out inn w (by omega))
   cases hsg:signsD inn with
   | none =>
    have HV:=Hh (HM.out _ (by rw [HR.out,hsg]))
    unfold SignsOf at HG;rw [hsg] at HG;clear HM HSG HIX hd hd2 HSC HR hix0 hne0 hsg hsl;go_wp2_with fail;refine (HG.out).mono ?_;rintro e w2 ⟨v,rfl,_,hg⟩;have HG2:=Hh hg;clear hg HG;dsimp only [Option.isSome_none];go_wp2;go_ret3;rw [HV.out];exact ⟨none,0,rfl,Nat.le_refl _,(fun h => absurd h (by simp [mkL,readQ])),HG2.out⟩
   | some cs =>
    have HV:=Hh (HM.out _ (by rw [HR.out,hsg]))
    unfold SignsOf at HG;rw [hsg] at HG;generalize l.drop (i + 1) = R at *;clear HM HSG HIX hd hd2 HSC HR hix0 hne0 hsg;go_wp2_with fail;refine (HG.out).mono ?_;rintro e w2 ⟨v,rfl,ho,hg⟩;have HG2:=Hh hg;have HO:=Hh (ho.newT);clear hg HG ho;dsimp only [Option.isSome_some,Option.getD_some];go_wp2
    go_quiet (fail)
    go_wp2;go_ret3;rw [HV.out];obtain ⟨A,cap,rfl,h1,h2⟩:=HO.out;refine ⟨A,cap,?_,?_,h2,HG2.out.drewN _⟩
    ·show Ending.returned (.tuple #[.slice A cs.length cap,.string ⟨R.toArray⟩,.bool true]) = .returned (.tuple #[.slice A (intsZ cs).length cap,.string ⟨R.toArray⟩,.bool true])
     rw [ints_len]
    ·show (intsZ cs).length ≤ cap
     rw [ints_len];exact h1
  have hixy:=HIX.out (i + 1) y hy
  push_cast at hixy
  by_cases hy39:y = 39
  ·subst hy39
   replace hixy:∀ W,(Instr.index 9 (.string ⟨l.toArray⟩) (.int .i64 (((i:Nat):Int) + 1))).run Tryz.prog W = .ok (.int .u8 39) W:=hixy;rw [hd2] at HSC;have HN:=Hh (scanAt_two HSC.out);have hcat:=str_app inn [39];have hs1:¬ 9223372036854775807 < inn.length + 1:=by omega
   clear HM HSG HIX hd hx hd2 hy HSC hix0 hne0;go_wp2;go_roundg (l.length - (i + 1 + 1))
   case rel => exact ⟨i + 1 + 1,inn ++ [39],by omega,rfl,rfl,by go_num,by rw [List.length_append,List.length_singleton];omega,HN,rfl⟩
   case measure => omega
  ·have HR:=Hh (scanAt_end HSC.out (by rw [hd2];simpa using hy39))
   have hyb:(((y.toNat:Nat):Int) == 39) = false:=by rw [beq_eq_false_iff_ne];exact u8_ne39 hy39
   have hsl:=slice_from l (i + 1) (by omega)
   push_cast at hsl
   have HG:=Hh (HSG.out inn w (by omega))
   cases hsg:signsD inn with
   | none =>
    have HV:=Hh (HM.out _ (by rw [HR.out,hsg]))
    unfold SignsOf at HG;rw [hsg] at HG;clear HM HSG HIX hd hd2 HSC HR hix0 hne0 hsg hsl hy39;go_wp2_with fail;refine (HG.out).mono ?_;rintro e w2 ⟨v,rfl,_,hg⟩;have HG2:=Hh hg;clear hg HG;dsimp only [Option.isSome_none];go_wp2;go_ret3;rw [HV.out];exact ⟨none,0,rfl,Nat.le_refl _,(fun h => absurd h (by simp [mkL,readQ])),HG2.out⟩
   | some cs =>
    have HV:=Hh (HM.out _ (by rw [HR.out,hsg]))
    unfold SignsOf at HG;rw [hsg] at HG;clear hd2;generalize l.drop (i + 1) = R at *;clear HM HSG HIX hd HSC HR hix0 hne0 hsg hy39;go_wp2_with fail;refine (HG.out).mono ?_;rintro e w2 ⟨v,rfl,ho,hg⟩;have HG2:=Hh hg;have HO:=Hh (ho.newT);clear hg HG ho;dsimp only [Option.isSome_some,Option.getD_some];go_wp2
    go_quiet (fail)
    go_wp2;go_ret3;rw [HV.out];obtain ⟨A,cap,rfl,h1,h2⟩:=HO.out;refine ⟨A,cap,?_,?_,h2,HG2.out.drewN _⟩
    ·show Ending.returned (.tuple #[.slice A cs.length cap,.string ⟨R.toArray⟩,.bool true]) = .returned (.tuple #[.slice A (intsZ cs).length cap,.string ⟨R.toArray⟩,.bool true])
     rw [ints_len]
    ·show (intsZ cs).length ≤ cap
     rw [ints_len];exact h1
end Go.Proofs.YteoogioanjkacaaGreatDoor.Quo
namespace Go.Proofs.YteoogioanjkacaaGreatDoor
open Go.RowKit Go.Lib
def begR (s p:List UInt8):List UInt8:=if begB s p = true then s.drop p.length else []
theorem beg_take {s p:List UInt8} (h:p.length ≤ s.length):begB s p = decide (s.take p.length = p):=by
 have:begB s p = true ↔ s.take p.length = p:=by
  unfold begB;rw [List.isPrefixOf_iff_prefix];constructor
  ·intro hp;exact (List.prefix_iff_eq_take.1 hp).symm
  ·intro hp;exact List.prefix_iff_eq_take.2 hp.symm
 by_cases hh:s.take p.length = p
 ·rw [this.2 hh];simp [hh]
 ·cases hb:begB s p with
  | true => exact absurd (this.1 hb) hh
  | false => simp [hh]
theorem dbegins_any (s p:List UInt8) (w:World):Calls Tryz.prog 54 #[.string ⟨s.toArray⟩,.string ⟨p.toArray⟩] w fun e w' => e = .returned (.tuple #[.string ⟨(begR s p).toArray⟩,.bool (begB s p)]) ∧ w' = w:=by
 have z1:(⟨s.toArray⟩:ByteArray).size = s.length:=by simp [ByteArray.size]
 have z2:(⟨p.toArray⟩:ByteArray).size = p.length:=by simp [ByteArray.size]
 by_cases hl:s.length < p.length
 ·have hb:begB s p = false:=by
   cases hb:begB s p with
   | false => rfl
   | true => exact absurd ((List.isPrefixOf_iff_prefix.1 hb).length_le) (by omega)
  have hr:begR s p = []:=by unfold begR;rw [hb];rfl
  have HR:=Hh hr;have HB:=Hh hb;clear hb hr;have hli:((s.length:Nat):Int) < ((p.length:Nat):Int):=by omega
  go_enter Tryz.func54,Tryz.ntmps54
  go_wp2;go_ret2;exact ⟨by rw [HR.out,HB.out];rfl,rfl⟩
 ·have hli:¬ ((s.length:Nat):Int) < ((p.length:Nat):Int):=by omega
  have hst:=Num.slice_to s p.length (by omega)
  have hsf:=Num.slice_from s p.length (by omega)
  have hbt:=beg_take (s:=s) (p:=p) (by omega)
  by_cases hh:s.take p.length = p
  ·have ht:(!List.take p.length s == p) = false:=by simp [hh]
   have HB:Hid (begB s p = true):=Hh (by rw [hbt];simp [hh])
   have HR:Hid (begR s p = s.drop p.length):=Hh (by unfold begR;rw [if_pos HB.out])
   clear hbt hh
   go_enter Tryz.func54,Tryz.ntmps54
   go_wp2;go_ret2;exact ⟨by rw [HR.out,HB.out];rfl,rfl⟩
  ·have ht:(!List.take p.length s == p) = true:=by simp [hh]
   have HB:Hid (begB s p = false):=Hh (by rw [hbt];simp [hh])
   have HR:Hid (begR s p = []):=Hh (by unfold begR;rw [if_neg (by rw [HB.out];simp)])
   clear hbt hh
   go_enter Tryz.func54,Tryz.ntmps54
   go_wp2;go_ret2;exact ⟨by rw [HR.out,HB.out];rfl,rfl⟩
def RdQ (M z:Nat) (o:Option (List Nd × List UInt8)) (w:World) (e:Ending) (w':World):Prop :=
 Below z w w' ∧ ∃ (A:Option Addr) (n c:Nat) (ms:List Nd) (t:List UInt8) (β:Bool),e = .returned (.tuple #[.slice A n c,.string ⟨t.toArray⟩,.bool β]) ∧ ms.length = n ∧ n ≤ c ∧ n ≤ M ∧
  NodesT (fun b => z ≤ b ∧ b < w'.heap.size) w' A ms ∧ o = (if β = true then some (ms,t) else none)
theorem RdQ.no {M z:Nat} {o:Option (List Nd × List UInt8)} {w w':World} (h:o = none) (hb:Below z w w'):RdQ M z o w (.returned (.tuple #[.slice none 0 0,.string ⟨#[]⟩,.bool false])) w' :=
 ⟨hb,none,0,0,[],[],false,rfl,rfl,Nat.le_refl _,Nat.zero_le _,fun h => absurd h (by simp),by rw [h];rfl⟩
def KidC (d:Nat):Prop:=∀ (s:List UInt8) (w:World),s.length ≤ 100000 → Calls Tryz.prog 55 #[.string ⟨s.toArray⟩,.int .i64 (d:Nat)] w (RdQ 200000 w.heap.size (kidR (readR d) s) w)
def RdC (d:Nat):Prop:=∀ (s:List UInt8) (w:World),s.length ≤ 100000 → Calls Tryz.prog 26 #[.string ⟨s.toArray⟩,.int .i64 (d:Nat)] w (RdQ 1000000 w.heap.size (readR d s) w)
theorem kid_zero:KidC 0:=by
 intro s w hl;have HB:=Hh (fun W => dbegins_any s [40] W);have HN:Hid (kidR (readR 0) s = none):=Hh (by rw [kidR_way];split <;> rfl)
 obtain ⟨r,hr⟩:∃ r,begR s [40] = r:=⟨_,rfl⟩;obtain ⟨β,hβ⟩:∃ β,begB s [40] = β:=⟨_,rfl⟩;rw [hr,hβ] at HB;clear hr hβ hl
 cases β with
 | false =>
  go_enter Tryz.func55,Tryz.ntmps55
  go_wp2_with fail;refine (HB.out _).mono ?_;rintro e w1 ⟨rfl,rfl⟩;go_wp2;go_ret3;exact RdQ.no HN.out (Below.refl _ _)
 | true =>
  go_enter Tryz.func55,Tryz.ntmps55
  go_wp2_with fail;refine (HB.out _).mono ?_;rintro e w1 ⟨rfl,rfl⟩;go_wp2;go_ret3;exact RdQ.no HN.out (Below.refl _ _)
theorem kid_succ {d:Nat} (hd:d + 1 ≤ 100) (IH:RdC (d + 1)):KidC (d + 1):=by
 intro s w hl;have HB:=Hh (fun W => dbegins_any s [40] W);have HW:=Hh (kidR_way (readR (d + 1)) s)
 cases hb:begB s [40] with
 | false =>
  have HN:Hid (kidR (readR (d + 1)) s = none):=Hh (by rw [HW.out,hb];rfl)
  rw [hb] at HB;obtain ⟨r,hr⟩:∃ r,begR s [40] = r:=⟨_,rfl⟩;rw [hr] at HB;clear hr hb hl HW
  go_enter Tryz.func55,Tryz.ntmps55
  go_wp2_with fail;refine (HB.out _).mono ?_;rintro e w1 ⟨rfl,rfl⟩;go_wp2;go_ret3;exact RdQ.no HN.out (Below.refl _ _)
 | true =>
  have hr:begR s [40] = s.drop 1:=by unfold begR;rw [if_pos hb];rfl
  rw [hb,hr] at HB;rw [hb,if_pos rfl] at HW;have hlen:(s.drop 1).length ≤ 100000:=by rw [List.length_drop];omega
  obtain ⟨r,hr'⟩:∃ r,s.drop 1 = r:=⟨_,rfl⟩;rw [hr'] at HB HW hlen;have HRD:=Hh (fun W => IH r W hlen);have HTK:=Hh (fun (t:List UInt8) (a:List Nd) (h:readR (d + 1) r = some (a,t)) => readR_took (d + 1) r a t hlen h);have hdi:¬ ((((d + 1:Nat):Nat):Int) < 1):=by omega
  obtain ⟨dd,hdd⟩:∃ dd:Int,(((d + 1:Nat):Nat):Int) = dd:=⟨_,rfl⟩;rw [hdd] at HRD hdi ⊢;have HLN:=Hh hlen;clear hr hb hl hr' hlen IH hdd
  go_enter Tryz.func55,Tryz.ntmps55
  go_wp2_with fail;refine (HB.out _).mono ?_;rintro e w1 ⟨rfl,rfl⟩;go_wp2_with fail;refine (HRD.out _).mono ?_;rintro e w2 ⟨hb2,A,n,c,ms,t,β,rfl,hn,hc,hm,hns,ho⟩;have HB2:=Hh hb2;have HNS:=Hh hns;have HO:=Hh ho;have HNL:=Hh (show ms.length = n ∧ n ≤ c ∧ n ≤ 1000000 from ⟨hn,hc,hm⟩);clear hb2 hns ho hn hc hm HRD
  cases β with
  | false =>
   have HN:Hid (kidR (readR (d + 1)) s = none):=Hh (by rw [HW.out,HO.out];rfl)
   go_wp2;go_ret3;exact RdQ.no HN.out HB2.out
  | true =>
   have HC:=Hh (fun W => dbegins_any t [41] W)
   have HN:Hid (kidR (readR (d + 1)) s = if begB t [41] = true then some (ms,begR t [41]) else none):=Hh (by
    rw [HW.out,HO.out,if_pos rfl,Option.bind_some];dsimp only
    by_cases h:begB t [41] = true
    ·rw [if_pos h,if_pos h];unfold begR;rw [if_pos h];rfl
    ·rw [if_neg h,if_neg h])
   have HML:Hid (n ≤ 200000):=Hh (by
    have h1:=(HTK.out t ms (by rw [HO.out];rfl)).1
    have h2:=HLN.out;have h3:=HNL.out.1
    omega)
   obtain ⟨r2,hr2⟩:∃ r2,begR t [41] = r2:=⟨_,rfl⟩;obtain ⟨γ,hγ⟩:∃ γ,begB t [41] = γ:=⟨_,rfl⟩;rw [hr2,hγ] at HC HN;clear hr2 hγ;go_wp2_with fail;refine (HC.out _).mono ?_;rintro e w3 ⟨rfl,rfl⟩;go_wp2;go_ret3;exact ⟨HB2.out,A,n,c,ms,r2,γ,rfl,HNL.out.1,HNL.out.2.1,HML.out,HNS.out,HN.out⟩
open Go.RowKit Go.Lib
abbrev NoX:Nat → Prop:=fun _ => False
theorem OwnRX.grow {X:Nat → Prop} {B:Nat} {v:Value} {ns:List Nd} {w w':World} (h:OwnRX X B v ns w) (hg:Grow w w'):OwnRX X B v ns w':=by
 obtain ⟨hB,vals,ho,hn⟩:=h;exact ⟨Nat.le_trans hB hg.size,vals,ownsRow_grow ho hg,fun i hi => (hn i hi).keep (fun b hb => ⟨⟨hb.1,hb.2.1,Nat.lt_of_lt_of_le hb.2.2.1 hg.size,hb.2.2.2⟩,hg.block b hb.2.2.1⟩) (fun _ _ _ => rfl)⟩
theorem ownRX_start {B:Nat} (W:World) (sh:List Int) (As:Option Addr) (l1 cA:Nat) (hl:sh.length = l1) (hB:B ≤ W.heap.size) (h:NewN B As sh W) :
  OwnRX NoX B (.slice (some ⟨W.heap.size,0,none⟩) 1 1) [⟨5,sh,[],[]⟩] (W.alloc (.cells #[.int .i64 5,.slice As l1 cA,.slice none 0 0,.slice none 0 0] 34)):=by
 obtain ⟨⟨hB',vals,ho,hn⟩,_⟩:=Trio.start W sh As l1 cA hl hB h;exact ⟨hB',vals,ho,fun i hi => (hn i hi).keep (fun b hb => ⟨⟨hb.1,hb.2.1,hb.2.2.1,fun h => h⟩,rfl⟩) (fun _ _ _ => rfl)⟩
theorem itemsR_pos {rd:List UInt8 → Option (List Nd × List UInt8)} {sh:List Int} {b:UInt8} {t:List UInt8} (hr:rightB sh = true):itemsR rd sh (b :: t) =
  if b = 39 then (Quo.readQ (b :: t)).bind fun p => if p.1.length = cnt sh then some ([⟨3,sh,Quo.intsZ p.1,[]⟩],p.2) else none
  else if b = 40 then (kidsR rd (cnt sh) (b :: t)).map fun p => (⟨5,sh,[],[]⟩ :: p.1,p.2)
  else (Num.readO (b :: t)).bind fun p => (numO sh (if cnt sh = 0 ∧ p.1.length = 1 then [] else p.1)).map fun m => ([m],p.2):=by
 unfold itemsR;rw [if_pos hr]
theorem itemsR_not {rd:List UInt8 → Option (List Nd × List UInt8)} {sh:List Int} {s:List UInt8} (h:rightB sh = false ∨ s = []):itemsR rd sh s = none:=by
 unfold itemsR
 rcases h with h | h
 ·rw [if_neg (by rw [h];simp)]
 ·subst h
  split <;> rfl
theorem ditems_any (d:Nat) (hd:d ≤ 100) (IH:KidC d) (z:Nat) (A1:Option Addr) (n1 c1:Nat) (sh:List Int) (s:List UInt8) (w:World) (hz:z ≤ w.heap.size) (hs:sh.length = n1) (hn1:n1 ≤ 1100000) (hsh:NewN z A1 sh w) (hl:s.length ≤ 100000) :
  Calls Tryz.prog 56 #[.slice A1 n1 c1,.string ⟨s.toArray⟩,.int .i64 ((d + 1:Nat):Nat)] w (RdQ 1000000 z (itemsR (readR d) sh s) w):=by
 have HC:=Hh (rcount_any A1 n1 c1 sh w hs (by omega) hsh.nums)
 obtain ⟨dd,hdd⟩:∃ dd:Int,(((d + 1:Nat):Nat):Int) = dd:=⟨_,rfl⟩;rw [hdd]
 cases hr:rightB sh with
 | false =>
  have HN:=Hh (itemsR_not (rd:=readR d) (sh:=sh) (s:=s) (.inl hr));rw [hr] at HC;clear hs hsh hl hdd IH hr
  go_enter Tryz.func56,Tryz.ntmps56
  go_wp2_with fail;refine (HC.out).mono ?_;rintro e w1 ⟨rfl,rfl⟩;go_wp2;go_ret3;exact RdQ.no HN.out (Below.refl _ _)
 | true =>
 rw [hr] at HC
 cases s with
 | nil =>
  have HN:=Hh (itemsR_not (rd:=readR d) (sh:=sh) (s:=[]) (.inr rfl));clear hs hsh hl hdd IH hr
  go_enter Tryz.func56,Tryz.ntmps56
  go_wp2_with fail;refine (HC.out).mono ?_;rintro e w1 ⟨rfl,rfl⟩;go_wp2;go_ret3;exact RdQ.no HN.out (Below.refl _ _)
 | cons b t =>
 have HI:=Hh (itemsR_pos (rd:=readR d) (sh:=sh) (b:=b) (t:=t) hr);have hix:∀ W,(Instr.index 9 (.string ⟨(b :: t).toArray⟩) (.int .i64 0)).run Tryz.prog W = .ok (.int .u8 (b.toNat:Nat)) W:=fun W => Quo.index_str (l:=b :: t) (i:=0) (x:=b) rfl W;have hne:((b :: t:List UInt8) == []) = false:=rfl;have hcb:cnt sh ≤ 1048576:=cnt_le1 _;obtain ⟨s,hse⟩:∃ s,b :: t = s:=⟨_,rfl⟩;rw [hse] at HI hix hne hl ⊢;obtain ⟨C,hC⟩:∃ C,cnt sh = C:=⟨_,rfl⟩;rw [hC] at HI HC hcb;have HS:=Hh hs;have HSH:=Hh hsh;have HZ:=Hh hz;have hbn:b.toNat < 256:=b.toNat_lt
 by_cases h39:b = 39
 ·have hbi:(((b.toNat:Nat):Int) == 39) = true:=by rw [h39];rfl
  have HQ:=Hh (Quo.rread_any s hl w);have hrl:=fun cs r (h:Quo.readQ s = some (cs,r)) => readQ_len h;rw [if_pos h39] at HI;have HRL:=Hh hrl;clear hs hsh hdd IH hr hse hC hz hrl h39
  go_enter Tryz.func56,Tryz.ntmps56
  go_wp2_with fail;refine (HC.out).mono ?_;rintro e w1 ⟨rfl,rfl⟩;go_wp2_with fail;refine (HQ.out).mono ?_;rintro e w2 ⟨A,c,rfl,hc,hns,hg⟩;have HG:=Hh hg;have HNS:=Hh hns;have hgr:=fun (l2:Nat) => grow_new w2 (.cells #[.int .i64 3,.slice A1 n1 c1,.slice A l2 c,.slice none 0 0] 34);have HGR:=Hh hgr;clear hg hns hgr HQ HC
  cases hq:Quo.readQ s with
  | none =>
   rw [hq] at HNS HI hc;have HN:=Hh HI.out;have hrow:=node_litT (z:=z) (W:=w2) (B1:=A1) (B2:=A) (B3:=none) (e1:=c1) (e2:=c) (e3:=0) (q:=⟨3,sh,[],[]⟩) HS.out rfl rfl (Nat.le_trans HZ.out HG.out.size) ⟨NewN.grow HSH.out HG.out,HNS.out.keep fun b hb => ⟨⟨Nat.le_trans HZ.out hb.1,hb.2⟩,rfl⟩,DecsT.nil_⟩;have HROW:=Hh hrow;have HGG:=Hh (HG.out.trans (HGR.out 0));clear hq hrow HNS HRL;go_wp2;go_ret3;exact ⟨Below.mono HGG.out HZ.out,_,1,1,_,[],false,rfl,rfl,Nat.le_refl _,by decide,HROW.out,HN.out⟩
  | some p =>
   obtain ⟨cs,r⟩:=p;rw [hq] at HNS HI hc;obtain ⟨xl,hxl⟩:∃ xl,(Quo.intsZ cs).length = xl:=⟨_,rfl⟩;have hcl:cs.length = xl:=by rw [← hxl,Quo.ints_len]
   have hrl:=HRL.out cs r hq;have HIR:Hid (itemsR (readR d) sh s = if xl = C then some ([⟨3,sh,Quo.intsZ cs,[]⟩],r) else none):=Hh (by rw [HI.out,Option.bind_some];simp only [hcl])
   have hrow:=node_litT (z:=z) (W:=w2) (B1:=A1) (B2:=A) (B3:=none) (e1:=c1) (e2:=c) (e3:=0) (q:=⟨3,sh,Quo.intsZ cs,[]⟩) HS.out hxl rfl (Nat.le_trans HZ.out HG.out.size) ⟨NewN.grow HSH.out HG.out,HNS.out.keep fun b hb => ⟨⟨Nat.le_trans HZ.out hb.1,hb.2⟩,rfl⟩,DecsT.nil_⟩;have HROW:=Hh hrow;have HGG:=Hh (HG.out.trans (HGR.out xl));have hm:Quo.mkL (some (cs,r)) = (Quo.intsZ cs,r,true):=rfl;simp only [hm,hxl]
   by_cases hxc:xl = C
   ·have hxb:(((xl:Nat):Int) == ((C:Nat):Int)) = true:=by rw [hxc];simp
    have HN:Hid (itemsR (readR d) sh s = some ([⟨3,sh,Quo.intsZ cs,[]⟩],r)):=Hh (by rw [HIR.out,if_pos hxc])
    clear hq hrow HNS HRL hrl hm hcl HIR HI hxc hxl;go_wp2;go_ret3;exact ⟨Below.mono HGG.out HZ.out,_,1,1,_,r,true,rfl,rfl,Nat.le_refl _,by decide,HROW.out,HN.out⟩
   ·have hxb:(((xl:Nat):Int) == ((C:Nat):Int)) = false:=by
     rw [beq_eq_false_iff_ne];intro h;exact hxc (by omega)
    have HN:Hid (itemsR (readR d) sh s = none):=Hh (by rw [HIR.out,if_neg hxc])
    clear hq hrow HNS HRL hrl hm hcl HIR HI hxc hxl;go_wp2;go_ret3;exact ⟨Below.mono HGG.out HZ.out,_,1,1,_,r,false,rfl,rfl,Nat.le_refl _,by decide,HROW.out,HN.out⟩
 have hbi:(((b.toNat:Nat):Int) == 39) = false:=by
  rw [beq_eq_false_iff_ne];intro h;exact h39 (UInt8.toNat_inj.1 (by show b.toNat = 39;omega))
 rw [if_neg h39] at HI
 by_cases h40:b = 40
 ·have hbj:(((b.toNat:Nat):Int) == 40) = true:=by rw [h40];rfl
  rw [if_pos h40] at HI;have hdw:IntKind.i64.wrap (dd - 1) = ((d:Nat):Int):=by rw [IntKind.wrap_i64];omega
  have HIH:=Hh IH;have HTK:=Hh (fun (k:Nat) (a:List Nd) (r:List UInt8) (h:kidsR (readR d) k s = some (a,r)) => (kidsR_took (readR_took d) (k:=k) (a:=a) (r:=r) hl h).1);have hgn:=grow_new w (.cells #[.int .i64 5,.slice A1 n1 c1,.slice none 0 0,.slice none 0 0] 34);have HST:=Hh (ownRX_start w sh A1 n1 c1 hs hz hsh);have HGN:Hid (Below z w (w.alloc (.cells #[.int .i64 5,.slice A1 n1 c1,.slice none 0 0,.slice none 0 0] 34))):=Hh (Below.mono hgn hz);clear hs hsh IH hr hse hC hz h39 h40 hgn
  go_enter Tryz.func56,Tryz.ntmps56
  go_wp2_with fail;refine (HC.out).mono ?_;rintro e w1 ⟨rfl,rfl⟩;clear HC;go_wp2
  go_loopg [1,14,15] C (fun gk s1 s14 s15 wr => ∃ (k:Nat) (acc:List Nd) (r:List UInt8) (v:Value),k ≤ C ∧ gk = C - k ∧ s15 = .int .i64 k ∧ s1 = .string ⟨r.toArray⟩ ∧ v = s14 ∧ Hid (kidsR (readR d) k s = some (acc,r)) ∧ Hid (OwnRX NoX z v (⟨5,sh,[],[]⟩ :: acc) wr) ∧ Hid (Below z w1 wr))
  case atStart => exact ⟨0,[],s,_,Nat.zero_le _,rfl,rfl,rfl,rfl,Hh rfl,HST,HGN⟩
  case round =>
   obtain ⟨k,acc,r,v,hk,rfl,rfl,rfl,rfl,HK,HO,HB⟩:=hrel;have hal:=HTK.out k acc r HK.out
   by_cases hkm:k < C
   ·have hkm1:((k:Nat):Int) < ((C:Nat):Int):=by omega
    have HKS:Hid (kidsR (readR d) (k + 1) s = (kidR (readR d) r).map fun q => (acc ++ q.1,q.2)):=Hh (by rw [kidsR_succ,HK.out,Option.bind_some])
    have HCK:=Hh (HIH.out r wr (by omega))
    clear HK;go_wp2_with fail;refine (HCK.out).mono ?_;rintro e w2 ⟨hb2,A,n,c,ms,t,β,rfl,hn,hc,hm,hns,ho⟩;have HG2:=Hh (show Grow wr w2 from hb2);have HNS:=Hh hns;have HNL:=Hh hn;have HKO:=Hh ho;have HB2:=Hh (Below.trans HB.out (Below.mono hb2 HO.out.1));clear hns hn ho hb2 HCK hc
    cases β with
    | false =>
     have HN:Hid (itemsR (readR d) sh s = none):=Hh (by
      rw [HI.out,kidsR_none (k:=k + 1) (by rw [HKS.out,HKO.out];rfl) C (by omega)];rfl)
     go_wp2;go_ret3;exact RdQ.no HN.out HB2.out
    | true =>
     have HKN:Hid (kidsR (readR d) (k + 1) s = some (acc ++ ms,t)):=Hh (by rw [HKS.out,HKO.out,if_pos rfl];rfl)
     have HO2:=Hh (OwnRX.grow HO.out HG2.out);have HLT:Hid (∀ q,v.ownBlock = some q → q < wr.heap.size):=Hh (fun q hq => (HO.out.lt hq).2);have HZR:Hid (z ≤ wr.heap.size):=Hh HO.out.1;clear HKS HKO HO;go_wp2_with (at_builtin;refine wpList_more_nodes rfl _ _ rfl NoX z wr.heap.size v (⟨5,sh,[],[]⟩ :: acc) ms A n c rfl HO2.out rfl HNL.out HNS.out HZR.out HLT.out (fun _ _ h => h) (by rw [List.length_cons];omega) ?_;intro v' w6 HO6 HB6 HA6)
     go_roundg (C - (k + 1))
     case rel => exact ⟨k + 1,acc ++ ms,t,v',by omega,rfl,by go_num,rfl,rfl,HKN,HO6,Hh (Below.trans HB2.out HB6.out)⟩
     case measure => omega
   ·obtain rfl:C = k:=by omega
    obtain ⟨A,c,hv,hc,hns⟩:=HO.out.nodes;subst hv;have HNS:=Hh hns;have HN:Hid (itemsR (readR d) sh s = some (⟨5,sh,[],[]⟩ :: acc,r)):=Hh (by rw [HI.out,HK.out];rfl)
    have hlc:(⟨5,sh,[],[]⟩ :: acc:List Nd).length ≤ 1000000:=by rw [List.length_cons];omega
    clear hns HO HK HI;go_wp2;go_ret3;exact ⟨HB.out,A,_,c,_,r,true,rfl,rfl,hc,hlc,HNS.out,HN.out⟩
 ·have hbj:(((b.toNat:Nat):Int) == 40) = false:=by
   rw [beq_eq_false_iff_ne];intro h;exact h40 (UInt8.toNat_inj.1 (by show b.toNat = 40;omega))
  rw [if_neg h40] at HI;have HQ:=Hh (Num.rread_any s hl w);have HR1:=Hh (fun ds r (h:Num.readO s = some (ds,r)) => Num.readO_right s ds r h);have HR2:=Hh (fun ds r (h:Num.readO s = some (ds,r)) => Num.readO_few s ds r h);clear hs hsh IH hr hse hC hz h39 h40 hdd
  go_enter Tryz.func56,Tryz.ntmps56
  go_wp2_with fail;refine (HC.out).mono ?_;rintro e w1 ⟨rfl,rfl⟩;clear HC;go_wp2_with fail;refine (HQ.out).mono ?_;rintro e w2 ⟨A,c,rfl,hc,hds,hg⟩;have HG:=Hh hg;have HDS:=Hh hds;clear hg hds HQ
  cases hq:Num.readO s with
  | none =>
   rw [hq] at HDS HI hc;have hm:Num.mkL none = ([],[],false):=rfl;simp only [hm,List.length_nil];have HDN:Hid ((0:Nat) ≤ 100000):=Hh (by decide)
   have HDL:Hid (([]:List (Int × Int)).length = 0):=Hh rfl;have HDI:Hid (∀ x ∈ ([]:List (Int × Int)),In x.1 ∧ In x.2):=Hh (fun x hx => by cases hx)
   replace HDS:Hid (Decs w2 w2.heap.size A []):=HDS;clear hq hm HR1 HR2 hc;have HNB:=Hh (fun W (h1:NewN z A1 sh W) (h2:Decs W W.heap.size A []) => rnumbers_any A1 n1 c1 sh A 0 c [] W HS.out hn1 h1.nums HDL.out (by have:=HDN.out;omega) HDI.out h2)
   go_wp2_with fail;refine (HNB.out w2 (NewN.grow HSH.out HG.out) HDS.out).mono ?_;rintro e w3 hx;obtain ⟨nd,β,B1,e1,B2,e2,B3,e3,rfl,hβ,k1,k2,k3,hg3⟩:=one_node hx;have HB:=Hh hβ;have HND:=Hh (show NdT (fun b => z ≤ b ∧ b < w3.heap.size) w3 B1 B2 B3 nd from ⟨k1.keep fun b hb => ⟨⟨Nat.le_trans (Nat.le_trans HZ.out HG.out.size) hb.1,hb.2⟩,rfl⟩,k2.keep fun b hb => ⟨⟨Nat.le_trans (Nat.le_trans HZ.out HG.out.size) hb.1,hb.2⟩,rfl⟩,k3.keep fun b hb => ⟨⟨Nat.le_trans (Nat.le_trans HZ.out HG.out.size) hb.1,hb.2⟩,rfl⟩⟩);replace HG:=Hh (HG.out.trans hg3);clear hx hβ k1 k2 k3 hg3 HNB;obtain ⟨q0,hq0⟩:∃ q0,nd.kind = q0:=⟨_,rfl⟩;obtain ⟨q1,hq1⟩:∃ q1,nd.shp.length = q1:=⟨_,rfl⟩;obtain ⟨q2,hq2⟩:∃ q2,nd.ints.length = q2:=⟨_,rfl⟩;obtain ⟨q3,hq3⟩:∃ q3,nd.decs.length = q3:=⟨_,rfl⟩;have HQ:=Hh (show nd.kind = q0 ∧ nd.shp.length = q1 ∧ nd.ints.length = q2 ∧ nd.decs.length = q3 from ⟨hq0,hq1,hq2,hq3⟩);simp only [hq0,hq1,hq2,hq3];clear hq0 hq1 hq2 hq3;obtain ⟨y3,hy3⟩:∃ y,w3.heap.size = y:=⟨_,rfl⟩;have hbx:=boxN_new w3 q0 B1 q1 e1 B2 q2 e2 B3 q3 e3;rw [hy3] at hbx;have hgn:=grow_new w3 (.cells #[.int .i64 q0,.slice B1 q1 e1,.slice B2 q2 e2,.slice B3 q3 e3] 34);have hsz:(w3.alloc (.cells #[.int .i64 q0,.slice B1 q1 e1,.slice B2 q2 e2,.slice B3 q3 e3] 34)).heap.size = y3 + 1:=by simp [hy3]
   have b0:=hbx.at0;have b1:=hbx.at1;have b2:=hbx.at2;have b3:=hbx.at3;have hrow:=node_litT (z:=z) (W:=w3.alloc (.cells #[.int .i64 q0,.slice B1 q1 e1,.slice B2 q2 e2,.slice B3 q3 e3] 34)) (B1:=B1) (B2:=B2) (B3:=B3) (e1:=e1) (e2:=e2) (e3:=e3) (q:=nd) HQ.out.2.1 HQ.out.2.2.1 HQ.out.2.2.2 (Nat.le_trans HZ.out (HG.out.trans hgn).size) (HND.out.keep fun b hb => ⟨⟨hb.1,Nat.lt_of_lt_of_le hb.2 hgn.size⟩,hgn.block b hb.2⟩);rw [hsz,HQ.out.1] at hrow;have hgr:=grow_new (w3.alloc (.cells #[.int .i64 q0,.slice B1 q1 e1,.slice B2 q2 e2,.slice B3 q3 e3] 34)) (.cells #[.int .i64 q0,.slice B1 q1 e1,.slice B2 q2 e2,.slice B3 q3 e3] 34);have HROW:=Hh hrow;replace HG:=Hh (HG.out.trans (hgn.trans hgr));clear hbx hgn hsz hrow hgr HND HQ;clear HB;go_wp2;go_ret3;exact ⟨Below.mono HG.out HZ.out,_,1,1,_,[],false,rfl,rfl,Nat.le_refl _,by decide,HROW.out,HI.out⟩
  | some p =>
   obtain ⟨ds,r⟩:=p;rw [hq] at HDS HI hc;have hm:Num.mkL (some (ds,r)) = (ds,r,true):=rfl;simp only [hm] at hc ⊢;rw [Option.bind_some] at HI;obtain ⟨nl,hnl⟩:∃ nl,ds.length = nl:=⟨_,rfl⟩;have h1:=(HR1.out ds r hq).1;have h2:=(HR2.out ds r hq).1;replace HDS:Hid (Decs w2 w2.heap.size A ds):=HDS;simp only [hnl] at HI hc ⊢;rw [hnl] at h2
   by_cases hz0:C = 0 ∧ nl = 1
   ·have z1:(((C:Nat):Int) == 0) = true:=by rw [hz0.1];rfl
    have z2:(((nl:Nat):Int) == 1) = true:=by rw [hz0.2];rfl
    rw [if_pos hz0] at HI;have HDN:Hid ((0:Nat) ≤ 100000):=Hh (by decide)
    have HDL:Hid (([]:List (Int × Int)).length = 0):=Hh rfl;have HDI:Hid (∀ x ∈ ([]:List (Int × Int)),In x.1 ∧ In x.2):=Hh (fun x hx => by cases hx)
    replace HDS:Hid (Decs w2 w2.heap.size none []):=Hh (fun h => absurd h (by simp))
    clear hq hm HR1 HR2 hc hz0 h1 h2 hnl;have HNB:=Hh (fun W (h1:NewN z A1 sh W) (h2:Decs W W.heap.size none []) => rnumbers_any A1 n1 c1 sh none 0 0 [] W HS.out hn1 h1.nums HDL.out (by have:=HDN.out;omega) HDI.out h2)
    go_wp2_with fail;refine (HNB.out w2 (NewN.grow HSH.out HG.out) HDS.out).mono ?_;rintro e w3 hx;obtain ⟨nd,β,B1,e1,B2,e2,B3,e3,rfl,hβ,k1,k2,k3,hg3⟩:=one_node hx;have HB:=Hh hβ;have HND:=Hh (show NdT (fun b => z ≤ b ∧ b < w3.heap.size) w3 B1 B2 B3 nd from ⟨k1.keep fun b hb => ⟨⟨Nat.le_trans (Nat.le_trans HZ.out HG.out.size) hb.1,hb.2⟩,rfl⟩,k2.keep fun b hb => ⟨⟨Nat.le_trans (Nat.le_trans HZ.out HG.out.size) hb.1,hb.2⟩,rfl⟩,k3.keep fun b hb => ⟨⟨Nat.le_trans (Nat.le_trans HZ.out HG.out.size) hb.1,hb.2⟩,rfl⟩⟩);replace HG:=Hh (HG.out.trans hg3);clear hx hβ k1 k2 k3 hg3 HNB;obtain ⟨q0,hq0⟩:∃ q0,nd.kind = q0:=⟨_,rfl⟩;obtain ⟨q1,hq1⟩:∃ q1,nd.shp.length = q1:=⟨_,rfl⟩;obtain ⟨q2,hq2⟩:∃ q2,nd.ints.length = q2:=⟨_,rfl⟩;obtain ⟨q3,hq3⟩:∃ q3,nd.decs.length = q3:=⟨_,rfl⟩;have HQ:=Hh (show nd.kind = q0 ∧ nd.shp.length = q1 ∧ nd.ints.length = q2 ∧ nd.decs.length = q3 from ⟨hq0,hq1,hq2,hq3⟩);simp only [hq0,hq1,hq2,hq3];clear hq0 hq1 hq2 hq3;obtain ⟨y3,hy3⟩:∃ y,w3.heap.size = y:=⟨_,rfl⟩;have hbx:=boxN_new w3 q0 B1 q1 e1 B2 q2 e2 B3 q3 e3;rw [hy3] at hbx;have hgn:=grow_new w3 (.cells #[.int .i64 q0,.slice B1 q1 e1,.slice B2 q2 e2,.slice B3 q3 e3] 34);have hsz:(w3.alloc (.cells #[.int .i64 q0,.slice B1 q1 e1,.slice B2 q2 e2,.slice B3 q3 e3] 34)).heap.size = y3 + 1:=by simp [hy3]
    have b0:=hbx.at0;have b1:=hbx.at1;have b2:=hbx.at2;have b3:=hbx.at3;have hrow:=node_litT (z:=z) (W:=w3.alloc (.cells #[.int .i64 q0,.slice B1 q1 e1,.slice B2 q2 e2,.slice B3 q3 e3] 34)) (B1:=B1) (B2:=B2) (B3:=B3) (e1:=e1) (e2:=e2) (e3:=e3) (q:=nd) HQ.out.2.1 HQ.out.2.2.1 HQ.out.2.2.2 (Nat.le_trans HZ.out (HG.out.trans hgn).size) (HND.out.keep fun b hb => ⟨⟨hb.1,Nat.lt_of_lt_of_le hb.2 hgn.size⟩,hgn.block b hb.2⟩);rw [hsz,HQ.out.1] at hrow;have hgr:=grow_new (w3.alloc (.cells #[.int .i64 q0,.slice B1 q1 e1,.slice B2 q2 e2,.slice B3 q3 e3] 34)) (.cells #[.int .i64 q0,.slice B1 q1 e1,.slice B2 q2 e2,.slice B3 q3 e3] 34);have HROW:=Hh hrow;replace HG:=Hh (HG.out.trans (hgn.trans hgr));clear hbx hgn hsz hrow hgr HND HQ;have HN:Hid (itemsR (readR d) sh s = if β = true then some ([nd],r) else none):=Hh (by rw [HI.out,HB.out];cases β <;> rfl)
    clear HI HB
    cases β with
    | true =>
     go_wp2;go_ret3;exact ⟨Below.mono HG.out HZ.out,_,1,1,_,r,true,rfl,rfl,Nat.le_refl _,by decide,HROW.out,HN.out⟩
    | false =>
     go_wp2;go_ret3;exact ⟨Below.mono HG.out HZ.out,_,1,1,_,r,false,rfl,rfl,Nat.le_refl _,by decide,HROW.out,HN.out⟩
   ·rw [if_neg hz0] at HI
    have HDN:Hid (nl ≤ 100000):=Hh (by omega)
    have HDL:Hid (ds.length = nl):=Hh hnl;have HDI:Hid (∀ x ∈ ds,In x.1 ∧ In x.2):=Hh (fun x hx => (h1 x hx).2)
    by_cases z0:C = 0
    ·have z1:(((C:Nat):Int) == 0) = true:=by rw [z0];rfl
     have z2:(((nl:Nat):Int) == 1) = false:=by rw [beq_eq_false_iff_ne];intro h;exact hz0 ⟨z0,by omega⟩
     clear hq hm HR1 HR2 hc hz0 h1 h2 hnl z0;have HNB:=Hh (fun W (h1:NewN z A1 sh W) (h2:Decs W W.heap.size A ds) => rnumbers_any A1 n1 c1 sh A nl c ds W HS.out hn1 h1.nums HDL.out (by have:=HDN.out;omega) HDI.out h2)
     go_wp2_with fail;refine (HNB.out w2 (NewN.grow HSH.out HG.out) HDS.out).mono ?_;rintro e w3 hx;obtain ⟨nd,β,B1,e1,B2,e2,B3,e3,rfl,hβ,k1,k2,k3,hg3⟩:=one_node hx;have HB:=Hh hβ;have HND:=Hh (show NdT (fun b => z ≤ b ∧ b < w3.heap.size) w3 B1 B2 B3 nd from ⟨k1.keep fun b hb => ⟨⟨Nat.le_trans (Nat.le_trans HZ.out HG.out.size) hb.1,hb.2⟩,rfl⟩,k2.keep fun b hb => ⟨⟨Nat.le_trans (Nat.le_trans HZ.out HG.out.size) hb.1,hb.2⟩,rfl⟩,k3.keep fun b hb => ⟨⟨Nat.le_trans (Nat.le_trans HZ.out HG.out.size) hb.1,hb.2⟩,rfl⟩⟩);replace HG:=Hh (HG.out.trans hg3);clear hx hβ k1 k2 k3 hg3 HNB;obtain ⟨q0,hq0⟩:∃ q0,nd.kind = q0:=⟨_,rfl⟩;obtain ⟨q1,hq1⟩:∃ q1,nd.shp.length = q1:=⟨_,rfl⟩;obtain ⟨q2,hq2⟩:∃ q2,nd.ints.length = q2:=⟨_,rfl⟩;obtain ⟨q3,hq3⟩:∃ q3,nd.decs.length = q3:=⟨_,rfl⟩;have HQ:=Hh (show nd.kind = q0 ∧ nd.shp.length = q1 ∧ nd.ints.length = q2 ∧ nd.decs.length = q3 from ⟨hq0,hq1,hq2,hq3⟩);simp only [hq0,hq1,hq2,hq3];clear hq0 hq1 hq2 hq3;obtain ⟨y3,hy3⟩:∃ y,w3.heap.size = y:=⟨_,rfl⟩;have hbx:=boxN_new w3 q0 B1 q1 e1 B2 q2 e2 B3 q3 e3;rw [hy3] at hbx;have hgn:=grow_new w3 (.cells #[.int .i64 q0,.slice B1 q1 e1,.slice B2 q2 e2,.slice B3 q3 e3] 34);have hsz:(w3.alloc (.cells #[.int .i64 q0,.slice B1 q1 e1,.slice B2 q2 e2,.slice B3 q3 e3] 34)).heap.size = y3 + 1:=by simp [hy3]
     have b0:=hbx.at0;have b1:=hbx.at1;have b2:=hbx.at2;have b3:=hbx.at3;have hrow:=node_litT (z:=z) (W:=w3.alloc (.cells #[.int .i64 q0,.slice B1 q1 e1,.slice B2 q2 e2,.slice B3 q3 e3] 34)) (B1:=B1) (B2:=B2) (B3:=B3) (e1:=e1) (e2:=e2) (e3:=e3) (q:=nd) HQ.out.2.1 HQ.out.2.2.1 HQ.out.2.2.2 (Nat.le_trans HZ.out (HG.out.trans hgn).size) (HND.out.keep fun b hb => ⟨⟨hb.1,Nat.lt_of_lt_of_le hb.2 hgn.size⟩,hgn.block b hb.2⟩);rw [hsz,HQ.out.1] at hrow;have hgr:=grow_new (w3.alloc (.cells #[.int .i64 q0,.slice B1 q1 e1,.slice B2 q2 e2,.slice B3 q3 e3] 34)) (.cells #[.int .i64 q0,.slice B1 q1 e1,.slice B2 q2 e2,.slice B3 q3 e3] 34);have HROW:=Hh hrow;replace HG:=Hh (HG.out.trans (hgn.trans hgr));clear hbx hgn hsz hrow hgr HND HQ;have HN:Hid (itemsR (readR d) sh s = if β = true then some ([nd],r) else none):=Hh (by rw [HI.out,HB.out];cases β <;> rfl)
     clear HI HB
     cases β with
     | true =>
      go_wp2;go_ret3;exact ⟨Below.mono HG.out HZ.out,_,1,1,_,r,true,rfl,rfl,Nat.le_refl _,by decide,HROW.out,HN.out⟩
     | false =>
      go_wp2;go_ret3;exact ⟨Below.mono HG.out HZ.out,_,1,1,_,r,false,rfl,rfl,Nat.le_refl _,by decide,HROW.out,HN.out⟩
    ·have z1:(((C:Nat):Int) == 0) = false:=by rw [beq_eq_false_iff_ne];omega
     clear hq hm HR1 HR2 hc hz0 h1 h2 hnl z0;have HNB:=Hh (fun W (h1:NewN z A1 sh W) (h2:Decs W W.heap.size A ds) => rnumbers_any A1 n1 c1 sh A nl c ds W HS.out hn1 h1.nums HDL.out (by have:=HDN.out;omega) HDI.out h2)
     go_wp2_with fail;refine (HNB.out w2 (NewN.grow HSH.out HG.out) HDS.out).mono ?_;rintro e w3 hx;obtain ⟨nd,β,B1,e1,B2,e2,B3,e3,rfl,hβ,k1,k2,k3,hg3⟩:=one_node hx;have HB:=Hh hβ;have HND:=Hh (show NdT (fun b => z ≤ b ∧ b < w3.heap.size) w3 B1 B2 B3 nd from ⟨k1.keep fun b hb => ⟨⟨Nat.le_trans (Nat.le_trans HZ.out HG.out.size) hb.1,hb.2⟩,rfl⟩,k2.keep fun b hb => ⟨⟨Nat.le_trans (Nat.le_trans HZ.out HG.out.size) hb.1,hb.2⟩,rfl⟩,k3.keep fun b hb => ⟨⟨Nat.le_trans (Nat.le_trans HZ.out HG.out.size) hb.1,hb.2⟩,rfl⟩⟩);replace HG:=Hh (HG.out.trans hg3);clear hx hβ k1 k2 k3 hg3 HNB;obtain ⟨q0,hq0⟩:∃ q0,nd.kind = q0:=⟨_,rfl⟩;obtain ⟨q1,hq1⟩:∃ q1,nd.shp.length = q1:=⟨_,rfl⟩;obtain ⟨q2,hq2⟩:∃ q2,nd.ints.length = q2:=⟨_,rfl⟩;obtain ⟨q3,hq3⟩:∃ q3,nd.decs.length = q3:=⟨_,rfl⟩;have HQ:=Hh (show nd.kind = q0 ∧ nd.shp.length = q1 ∧ nd.ints.length = q2 ∧ nd.decs.length = q3 from ⟨hq0,hq1,hq2,hq3⟩);simp only [hq0,hq1,hq2,hq3];clear hq0 hq1 hq2 hq3;obtain ⟨y3,hy3⟩:∃ y,w3.heap.size = y:=⟨_,rfl⟩;have hbx:=boxN_new w3 q0 B1 q1 e1 B2 q2 e2 B3 q3 e3;rw [hy3] at hbx;have hgn:=grow_new w3 (.cells #[.int .i64 q0,.slice B1 q1 e1,.slice B2 q2 e2,.slice B3 q3 e3] 34);have hsz:(w3.alloc (.cells #[.int .i64 q0,.slice B1 q1 e1,.slice B2 q2 e2,.slice B3 q3 e3] 34)).heap.size = y3 + 1:=by simp [hy3]
     have b0:=hbx.at0;have b1:=hbx.at1;have b2:=hbx.at2;have b3:=hbx.at3;have hrow:=node_litT (z:=z) (W:=w3.alloc (.cells #[.int .i64 q0,.slice B1 q1 e1,.slice B2 q2 e2,.slice B3 q3 e3] 34)) (B1:=B1) (B2:=B2) (B3:=B3) (e1:=e1) (e2:=e2) (e3:=e3) (q:=nd) HQ.out.2.1 HQ.out.2.2.1 HQ.out.2.2.2 (Nat.le_trans HZ.out (HG.out.trans hgn).size) (HND.out.keep fun b hb => ⟨⟨hb.1,Nat.lt_of_lt_of_le hb.2 hgn.size⟩,hgn.block b hb.2⟩);rw [hsz,HQ.out.1] at hrow;have hgr:=grow_new (w3.alloc (.cells #[.int .i64 q0,.slice B1 q1 e1,.slice B2 q2 e2,.slice B3 q3 e3] 34)) (.cells #[.int .i64 q0,.slice B1 q1 e1,.slice B2 q2 e2,.slice B3 q3 e3] 34);have HROW:=Hh hrow;replace HG:=Hh (HG.out.trans (hgn.trans hgr));clear hbx hgn hsz hrow hgr HND HQ;have HN:Hid (itemsR (readR d) sh s = if β = true then some ([nd],r) else none):=Hh (by rw [HI.out,HB.out];cases β <;> rfl)
     clear HI HB
     cases β with
     | true =>
      go_wp2;go_ret3;exact ⟨Below.mono HG.out HZ.out,_,1,1,_,r,true,rfl,rfl,Nat.le_refl _,by decide,HROW.out,HN.out⟩
     | false =>
      go_wp2;go_ret3;exact ⟨Below.mono HG.out HZ.out,_,1,1,_,r,false,rfl,rfl,Nat.le_refl _,by decide,HROW.out,HN.out⟩
open Go.RowKit Go.Lib
theorem wp_more_nodesO {o:Oper} {a:Act} {w:World} {K:Act → World → Prop} {Q:Exit → Act → World → Prop} (s x:Operand)
  (ho:o.op = .call { callee:=.builtin .append,args:=#[s,x],argTypes:=#[22,22] }) (X:Nat → Prop) (B:Nat) (v:Value) (ns ms:List Nd) (A:Option Addr) (m c:Nat)
  (hs:a.eval s = v) (hown:OwnRX X B v ns w) (hx:a.eval x = .slice A m c) (hm:ms.length = m)
  (hms:NodesT (fun b => B ≤ b ∧ v.ownBlock ≠ some b ∧ b < w.heap.size ∧ ¬ X b) w A ms) (hb:ns.length + m ≤ 1000000000)
  (h:∀ v' w',Hid (OwnRX X B v' (ns ++ ms) w') → Hid (Below B w w') → Hid (Apart v v' w w') → K (a.put o.dst v') w'):o.wp Tryz.prog a w K Q:=by
 obtain ⟨i0,hi,hz0,hz1,hz2⟩:=info_of info_node;obtain ⟨hBw,vals,hown,hns⟩:=hown;obtain ⟨us,hul,hus,hu1,husrc⟩:=rawT_of (hms.keep (T':=fun b => B ≤ b ∧ v.ownBlock ≠ some b ∧ b < w.heap.size ∧ ¬ X b) fun b hb => ⟨hb,rfl⟩);subst hm;obtain ⟨v',w',hr,hown',hbel,hap⟩:=run_append_any w B 22 o.type 34 i0 _ 4 80 Tryz.underlying22 hi hz0 hz1 hz2 rfl (by decide) v ns.length vals hown A ms.length c us hul husrc hu1 (by omega) hb hBw
 unfold Oper.wp;simp [execOp,ho,resolve,invoke,builtin,hs,hx,hr,Result.andThen];refine h v' w' (Hh ⟨Nat.le_trans hBw hbel.size,vals ++ us,by rw [List.length_append];exact hown',fun i hi => ?_⟩) (Hh hbel) (Hh hap)
 have hkeep:∀ b,(B ≤ b ∧ v.ownBlock ≠ some b ∧ b < w.heap.size ∧ ¬ X b) → (B ≤ b ∧ v'.ownBlock ≠ some b ∧ b < w'.heap.size ∧ ¬ X b) ∧ w'.heap[b]? = w.heap[b]?:=fun b hb => by
  refine ⟨⟨hb.1,?_,Nat.lt_of_lt_of_le hb.2.2.1 hbel.size,hb.2.2.2⟩,hap.1 b hb.2.2.1 hb.2.1⟩;intro e
  rcases hap.2 with h | h
  ·exact hb.2.1 (h.symm.trans e)
  ·rw [h] at e;cases e;omega
 have hvl:vals.length = ns.length * 4:=hown.1
 by_cases hik:i < ns.length
 ·have e1:(ns ++ ms).getD i nd0 = ns.getD i nd0:=by simp [List.getD,List.getElem?_append_left hik]
  rw [e1];exact (hns i hik).keep hkeep (fun j h1 h2 => by simp only [List.getD];rw [List.getElem?_append_left (by omega)])
 ·rw [List.length_append] at hi
  obtain ⟨q,rfl⟩:∃ q,i = ns.length + q:=⟨i - ns.length,by omega⟩
  have e1:(ns ++ ms).getD (ns.length + q) nd0 = ms.getD q nd0:=by simp [List.getD,List.getElem?_append_right]
  rw [e1];obtain ⟨A1,c1,A2,c2,A3,c3,p0,p1,p2,p3,n1,n2,n3⟩:=hus q (by omega)
  have e2:∀ r,(vals ++ us).getD ((ns.length + q) * 4 + r) undef = us.getD (q * 4 + r) undef:=fun r => by
   simp only [List.getD];rw [List.getElem?_append_right (by omega),hvl]
   congr 2;omega
  exact ⟨A1,c1,A2,c2,A3,c3,(e2 0).trans p0,(e2 1).trans p1,(e2 2).trans p2,(e2 3).trans p3,n1.keep hkeep,n2.keep hkeep,n3.keep hkeep⟩
theorem wpList_more_nodesO {ops:Array Oper} {rest:List Oper} {o:Oper} {a:Act} {w:World} {Q:Exit → Act → World → Prop} (hgd:o.guard = none) (s x:Operand)
  (ho:o.op = .call { callee:=.builtin .append,args:=#[s,x],argTypes:=#[22,22] }) (X:Nat → Prop) (B:Nat) (v:Value) (ns ms:List Nd) (A:Option Addr) (m c:Nat)
  (hs:a.eval s = v) (hown:OwnRX X B v ns w) (hx:a.eval x = .slice A m c) (hm:ms.length = m)
  (hms:NodesT (fun b => B ≤ b ∧ v.ownBlock ≠ some b ∧ b < w.heap.size ∧ ¬ X b) w A ms) (hb:ns.length + m ≤ 1000000000)
  (h:∀ v' w',Hid (OwnRX X B v' (ns ++ ms) w') → Hid (Below B w w') → Hid (Apart v v' w w') → wpList Tryz.prog ops Q rest (a.put o.dst v') w'):wpList Tryz.prog ops Q (o :: rest) a w :=
 wpList_plain hgd fun K hK => wp_more_nodesO s x ho X B v ns ms A m c hs hown hx hm hms hb fun v' w' h1 h2 h3 => hK _ _ (h v' w' h1 h2 h3)
theorem readR_box {d:Nat} {s:List UInt8} (h:begB s [226,138,130] = true):readR (d + 1) s = (kidR (readR d) (begR s [226,138,130])).map fun p => (⟨5,[],[],[]⟩ :: p.1,p.2):=by
 rw [readR_succ,if_pos h];unfold begR;rw [if_pos h];rfl
theorem readR_signs {d:Nat} {s:List UInt8} (h:begB s [226,138,130] = false) (hq:s.head? = some 39):readR (d + 1) s = itemsR (readR d) [] s:=by
 rw [readR_succ,if_neg (by rw [h];simp),if_pos hq]
theorem readR_other {d : Nat} {s : List UInt8} (h : begB s [226, 138, 130] = false) (hq : s.head? ≠ some 39) : readR (d + 1) s = (Num.readO s).bind fun p =>
      if begB p.2 [226, 141, 180] = true then (if p.1.all whlB = true then itemsR (readR d) (p.1.map whlV) (begR p.2 [226, 141, 180]) else none)
      else itemsR (readR d) [] s := by
  rw [readR_succ, if_neg (by rw [h]; simp), if_neg hq]
  congr 1
  funext p
  by_cases hb : begB p.2 [226, 141, 180] = true
  · rw [if_pos hb, if_pos hb]
    unfold begR
    rw [if_pos hb]
    rfl
  · rw [if_neg hb, if_neg hb]
theorem read_succ {d:Nat} (hd:d + 1 ≤ 100) (IH:KidC d):RdC (d + 1):=by
 intro s w hl;have HIT:=Hh (fun z A1 n1 c1 sh s w h1 h2 h3 h4 h5 => ditems_any d (by omega) IH z A1 n1 c1 sh s w h1 h2 h3 h4 h5)
 have HB:=Hh (fun W => dbegins_any s [226,138,130] W);obtain ⟨dd,hdd⟩:∃ dd:Int,(((d + 1:Nat):Nat):Int) = dd:=⟨_,rfl⟩;have hdw:IntKind.i64.wrap (dd - 1) = ((d:Nat):Int):=by rw [IntKind.wrap_i64];omega
 rw [hdd] at HIT ⊢;clear hdd
 cases hb:begB s [226,138,130] with
 | true =>
  have HRB:=Hh (readR_box (d:=d) hb);rw [hb] at HB;have hrl:(begR s [226,138,130]).length ≤ 100000:=by
   unfold begR;rw [if_pos hb,List.length_drop];exact Nat.le_trans (Nat.sub_le _ _) hl
  obtain ⟨r,hr⟩:∃ r,begR s [226,138,130] = r:=⟨_,rfl⟩;rw [hr] at HB HRB hrl;have HK:=Hh (fun W => IH r W hrl);clear hr hb hrl IH HIT
  go_enter Tryz.func26,Tryz.ntmps26
  go_wp2_with fail;refine (HB.out _).mono ?_;rintro e w1 ⟨rfl,rfl⟩;clear HB;go_wp2_with fail;refine (HK.out _).mono ?_;rintro e w2 ⟨hb2,A,n,c,ms,t,β,rfl,hn,hc,hm,hns,ho⟩;have HG2:=Hh (show Grow w1 w2 from hb2);have HNS:=Hh hns;have HNL:=Hh (show ms.length = n ∧ n ≤ 200000 from ⟨hn,hm⟩);have HKO:=Hh ho;have HST:=Hh (ownRX_start w2 [] none 0 0 rfl hb2.size (fun h => absurd h (by simp)))
  have hgn:=grow_new w2 (.cells #[.int .i64 5,.slice none 0 0,.slice none 0 0,.slice none 0 0] 34);have HMS:=Hh (hns.keep (w':=w2.alloc (.cells #[.int .i64 5,.slice none 0 0,.slice none 0 0,.slice none 0 0] 34)) (T':=fun b => w1.heap.size ≤ b ∧ Value.ownBlock (.slice (some ⟨w2.heap.size,0,none⟩) 1 1) ≠ some b ∧ b < (w2.alloc (.cells #[.int .i64 5,.slice none 0 0,.slice none 0 0,.slice none 0 0] 34)).heap.size ∧ ¬ NoX b) (fun b hb => ⟨⟨hb.1,(fun e => by have e':w2.heap.size = b:=Option.some.inj e;omega),Nat.lt_of_lt_of_le hb.2 hgn.size,fun h => h⟩,hgn.block b hb.2⟩))
  have HGB:=Hh (show Below w1.heap.size w1 (w2.alloc (.cells #[.int .i64 5,.slice none 0 0,.slice none 0 0,.slice none 0 0] 34)) from HG2.out.trans hgn);have HRX:Hid (readR (d + 1) s = if β = true then some (⟨5,[],[],[]⟩ :: ms,t) else none):=Hh (by rw [HRB.out,HKO.out];cases β <;> rfl)
  clear hns hn ho hb2 HK hc hm hgn HNS HRB HKO;go_wp2_with (at_builtin;refine wpList_more_nodesO rfl _ _ rfl NoX w1.heap.size (.slice (some ⟨w2.heap.size,0,none⟩) 1 1) [⟨5,[],[],[]⟩] ms A n c rfl HST.out rfl HNL.out.1 HMS.out (by have:=HNL.out.2;simp only [List.length_cons,List.length_nil];omega) ?_;intro v6 w6 HO6 HB6 HA6;obtain ⟨A6,c6,e6,hc6,hN6⟩:=HO6.out.nodes;subst e6)
  have HB7:=Hh (Below.trans HGB.out HB6.out);have HN7:=Hh hN6;have HC7:=Hh hc6;clear hN6 hc6 HO6 HB6 HA6;go_ret3;have hle:([⟨5,[],[],[]⟩] ++ ms:List Nd).length ≤ 1000000:=by have:=HNL.out;simp only [List.length_append,List.length_cons,List.length_nil];omega
  exact ⟨HB7.out,A6,_,c6,_,t,β,rfl,rfl,HC7.out,hle,HN7.out,HRX.out⟩
 | false =>
  rw [hb] at HB;obtain ⟨r0,hr0⟩:∃ r0,begR s [226,138,130] = r0:=⟨_,rfl⟩;rw [hr0] at HB
  by_cases hq:s.head? = some 39
  ·have HRX:=Hh (readR_signs (d:=d) hb hq)
   obtain ⟨t,rfl⟩:∃ t,s = 39 :: t:=by
    cases s with
    | nil => cases hq
    | cons b t => exact ⟨t,by simpa using hq⟩
   have hix:∀ W,(Instr.index 9 (.string ⟨(39 :: t).toArray⟩) (.int .i64 0)).run Tryz.prog W = .ok (.int .u8 39) W:=fun W => Quo.index_str (l:=39 :: t) (i:=0) (x:=39) rfl W;have hne:((39 :: t:List UInt8) == []) = false:=rfl;obtain ⟨s,hse⟩:∃ s,(39 :: t:List UInt8) = s:=⟨_,rfl⟩;rw [hse] at hix hne hl HRX HB ⊢;clear hse hq hb hr0 IH
   go_enter Tryz.func26,Tryz.ntmps26
   go_wp2_with fail;refine (HB.out _).mono ?_;rintro e w1 ⟨rfl,rfl⟩;clear HB;go_wp2_with fail;refine (HIT.out w1.heap.size none 0 0 [] s w1 (Nat.le_refl _) rfl (by decide) (fun h => absurd h (by simp)) hl).mono ?_
   rintro e v3 hx;obtain ⟨hb3,A3,n3,c3,m3,t3,β3,rfl,hn3,hc3,hm3,hns3,ho3⟩:=hx;have HB3:=Hh (Below.trans (Below.refl _ _) hb3);have HNS3:=Hh hns3;have HL3:=Hh (show m3.length = n3 ∧ n3 ≤ c3 ∧ n3 ≤ 1000000 from ⟨hn3,hc3,hm3⟩);have HO3:=Hh ho3;clear hb3 hns3 ho3 hn3 hc3 hm3 HIT;go_wp2;go_ret3;exact ⟨HB3.out,A3,n3,c3,m3,t3,β3,rfl,HL3.out.1,HL3.out.2.1,HL3.out.2.2,HNS3.out,by rw [HRX.out];exact HO3.out⟩
  ·have HRO:=Hh (readR_other (d:=d) hb hq)
   cases s with
   | nil =>
    have HRX:Hid (readR (d + 1) [] = none):=Hh (by
     rw [HRO.out];have:Num.readO [] = none:=Num.readO_wrong (by rw [Num.npc_nil];show (Num.oneD []).2 = false;rw [Num.oneD_nil])
     rw [this];rfl)
    have HQ:=Hh (fun W => Num.rread_any [] (by decide) W)
    have hm:Num.mkL (Num.readO []) = ([],[],false):=by
     have:Num.readO [] = none:=Num.readO_wrong (by rw [Num.npc_nil];show (Num.oneD []).2 = false;rw [Num.oneD_nil])
     rw [this];rfl
    rw [hm] at HQ;clear hq hb hr0 IH hm HRO HIT
    go_enter Tryz.func26,Tryz.ntmps26
    go_wp2_with fail;refine (HB.out _).mono ?_;rintro e w1 ⟨rfl,rfl⟩;clear HB;go_wp2_with fail;refine (HQ.out _).mono ?_;rintro e w2 ⟨A,c,rfl,hc,hds,hg⟩;have HG:=Hh hg;clear hg hds HQ;go_wp2;go_ret3;exact RdQ.no HRX.out HG.out
   | cons b t =>
    have hix:∀ W,(Instr.index 9 (.string ⟨(b :: t).toArray⟩) (.int .i64 0)).run Tryz.prog W = .ok (.int .u8 (b.toNat:Nat)) W:=fun W => Quo.index_str (l:=b :: t) (i:=0) (x:=b) rfl W;have hne:((b :: t:List UInt8) == []) = false:=rfl;have hbn:b.toNat < 256:=b.toNat_lt;have hbi:(((b.toNat:Nat):Int) == 39) = false:=by
     rw [beq_eq_false_iff_ne];intro h;exact hq (by rw [show b = 39 from UInt8.toNat_inj.1 (by show b.toNat = 39;omega)];rfl)
    obtain ⟨s,hse⟩:∃ s,(b :: t:List UInt8) = s:=⟨_,rfl⟩;rw [hse] at hix hne hl HRO HB ⊢;have HQ:=Hh (fun W => Num.rread_any s hl W);have HR1:=Hh (fun ds r (h:Num.readO s = some (ds,r)) => Num.readO_right s ds r h);have HR2:=Hh (fun ds r (h:Num.readO s = some (ds,r)) => Num.readO_few s ds r h);clear hse hq hb hr0 IH
    go_enter Tryz.func26,Tryz.ntmps26
    go_wp2_with fail;refine (HB.out _).mono ?_;rintro e w1 ⟨rfl,rfl⟩;clear HB;go_wp2_with fail;refine (HQ.out _).mono ?_;rintro e w2 ⟨A,c,rfl,hc,hds,hg⟩;have HG:=Hh hg;have HDS:=Hh hds;clear hg hds HQ
    cases hq:Num.readO s with
    | none =>
     have HRX:Hid (readR (d + 1) s = none):=Hh (by rw [HRO.out,hq];rfl)
     have hm:Num.mkL none = ([],[],false):=rfl;simp only [hm];clear hq hm HRO HIT HR1 HR2;go_wp2;go_ret3;exact RdQ.no HRX.out HG.out
    | some p =>
     obtain ⟨ds,r⟩:=p;rw [hq] at HDS HRO hc;have hm:Num.mkL (some (ds,r)) = (ds,r,true):=rfl;simp only [hm] at hc ⊢;rw [Option.bind_some] at HRO;obtain ⟨nl,hnl⟩:∃ nl,ds.length = nl:=⟨_,rfl⟩;have h1:=(HR1.out ds r hq).1;have h2:=(HR2.out ds r hq);replace HDS:Hid (Decs w2 w2.heap.size A ds):=HDS;simp only [hnl] at hc ⊢;rw [hnl] at h2;have HB2:=Hh (fun W => dbegins_any r [226,141,180] W);have HDI:Hid (∀ x ∈ ds,In x.1 ∧ In x.2):=Hh (fun x hx => (h1 x hx).2);have HNL:=Hh (show ds.length = nl ∧ nl ≤ 100000 from ⟨hnl,by omega⟩)
     have hrl:(begR r [226,141,180]).length ≤ 100000:=by
      unfold begR;split
      ·rw [List.length_drop];exact Nat.le_trans (Nat.sub_le _ _) (by omega)
      ·simp
     clear hq hm HR1 HR2 h1 h2 hnl
     cases hb2:begB r [226,141,180] with
     | false =>
      have HRX:Hid (readR (d + 1) s = itemsR (readR d) [] s):=Hh (by rw [HRO.out,if_neg (by show ¬ begB r _ = true;rw [hb2];simp)])
      rw [hb2] at HB2;obtain ⟨r0,hr0⟩:∃ r0,begR r [226,141,180] = r0:=⟨_,rfl⟩;rw [hr0] at HB2;clear hr0 hrl hb2 HRO;go_wp2_with fail;refine (HB2.out _).mono ?_;rintro e w3 ⟨rfl,rfl⟩;clear HB2;go_wp2_with fail;refine (HIT.out w1.heap.size none 0 0 [] s w3 HG.out.size rfl (by decide) (fun h => absurd h (by simp)) hl).mono ?_
      rintro e v3 hx;obtain ⟨hb3,A3,n3,c3,m3,t3,β3,rfl,hn3,hc3,hm3,hns3,ho3⟩:=hx;have HB3:=Hh (Below.trans HG.out hb3);have HNS3:=Hh hns3;have HL3:=Hh (show m3.length = n3 ∧ n3 ≤ c3 ∧ n3 ≤ 1000000 from ⟨hn3,hc3,hm3⟩);have HO3:=Hh ho3;clear hb3 hns3 ho3 hn3 hc3 hm3 HIT;go_wp2;go_ret3;exact ⟨HB3.out,A3,n3,c3,m3,t3,β3,rfl,HL3.out.1,HL3.out.2.1,HL3.out.2.2,HNS3.out,by rw [HRX.out];exact HO3.out⟩
     | true =>
      have HRY:Hid (readR (d + 1) s = if ds.all whlB = true then itemsR (readR d) (ds.map whlV) (begR r [226,141,180]) else none):=Hh (by rw [HRO.out,if_pos (show begB r _ = true from hb2)])
      rw [hb2] at HB2;obtain ⟨q,hr0⟩:∃ q,begR r [226,141,180] = q:=⟨_,rfl⟩;rw [hr0] at HB2 HRY hrl;clear hr0 hb2 HRO;go_wp2_with fail;refine (HB2.out _).mono ?_;rintro e w3 ⟨rfl,rfl⟩;clear HB2;obtain ⟨B,hB⟩:∃ B,w3.heap.size = B:=⟨_,rfl⟩;have HBE:=Hh hB;clear hB;go_wp2
      go_loopg [15,16] nl (fun gk s15 s16 wr => ∃ (j:Nat) (v:Value),j ≤ nl ∧ gk = nl - j ∧ s16 = .int .i64 j ∧ v = s15 ∧ Hid ((ds.take j).all whlB = true) ∧ Hid (OwnI B v ((ds.take j).map whlV) wr) ∧ Hid (Below B w3 wr))
      case atStart => exact ⟨0,_,Nat.zero_le _,rfl,rfl,rfl,Hh (by simp),Hh (ownI_nil _ _),Hh (Below.refl _ _)⟩
      case round =>
       obtain ⟨j,v,hj,rfl,rfl,rfl,HAL,HO,HBR⟩:=hrel;have HGR:=Hh (grow_z HBE.out HBR.out);have hnlb:=HNL.out.2;have HZ:Hid (B ≤ wr.heap.size):=Hh (by rw [← HBE.out];exact HBR.out.size)
       by_cases hjl:j < nl
       ·have hji:((j:Nat):Int) < ((nl:Nat):Int):=by omega
        have hjx:j < ds.length:=by rw [HNL.out.1];exact hjl
        obtain ⟨b',off',rfl,hb',hcl⟩:=(HDS.out.grow HGR.out) (by omega)
        have hc2:=hcl j hjx
        have HIJ:Hid (In (ds.getD j (0,0)).1 ∧ In (ds.getD j (0,0)).2):=Hh (by
         rw [show ds.getD j (0,0) = ds[j] by simp [List.getD,hjx]]
         exact HDI.out _ (List.getElem_mem hjx))
        have HTS:Hid (ds.take (j + 1) = ds.take j ++ [ds.getD j (0,0)]):=Hh (by
         rw [List.take_succ_eq_append_getElem hjx];simp [List.getD,hjx])
        have HLJ:Hid (((ds.take j).map whlV).length ≤ 1100000):=Hh (by
         have:=HNL.out;rw [List.length_map,List.length_take]
         omega)
        have HMM:Hid (ds.getD j (0,0) ∈ ds):=Hh (by rw [show ds.getD j (0,0) = ds[j] by simp [List.getD,hjx]];exact List.getElem_mem hjx)
        clear hcl hb' hjx;generalize ds.getD j (0,0) = y at *;obtain ⟨m,x⟩:=y;have HC:=Hh (fun W => rwhole_any m x W HIJ.out.1 HIJ.out.2);obtain ⟨⟨u,β⟩,hu⟩:∃ u,wholeD m x = u:=⟨_,rfl⟩;have HW:Hid (whlB (m,x) = β ∧ whlV (m,x) = u):=Hh (by unfold whlB whlV;rw [hu];exact ⟨rfl,rfl⟩)
        rw [hu] at HC;dsimp only at HC;clear hu
        cases β with
        | false =>
         have HRX:Hid (readR (d + 1) s = none):=Hh (by
          rw [HRY.out,if_neg];intro h;have:=List.all_eq_true.1 h _ HMM.out;rw [HW.out.1] at this
          cases this)
         go_wp2_with fail;refine (HC.out _).mono ?_;rintro e w4 ⟨rfl,hg4⟩;have HG4:=Hh (HG.out.trans (HGR.out.trans hg4));clear hg4 HC;go_wp2;go_ret3;exact RdQ.no HRX.out HG4.out
        | true =>
         go_wp2_with fail;refine (HC.out _).mono ?_;rintro e w4 ⟨rfl,hg4⟩;have HG4:=Hh (hg4.trans (grow_new w4 (.cells #[.int .i64 u] 3)));have HO4:=Hh (HO.out.grow HG4.out);have HL4:=Hh (nums_lit w4 [u]);have HZ4:=Hh (Nat.le_trans HZ.out HG4.out.size);have HB4:=Hh (Below.trans HBR.out (Below.mono HG4.out HZ.out));clear hg4 HC HO;go_wp2_with (at_builtin;refine wpList_more_ints rfl _ _ rfl B v _ (some ⟨w4.heap.size,0,none⟩) 1 1 [u] rfl HO4.out rfl rfl HL4.out (by have:=HLJ.out;omega) HZ4.out ?_;intro v' w5 HO5 HB5 HA5)
         go_roundg (nl - (j + 1))
         case rel => exact ⟨j + 1,v',by omega,rfl,by go_num,rfl,Hh (by rw [HTS.out,List.all_append,HAL.out];simp [HW.out.1]),Hh (by rw [HTS.out,List.map_append];simp only [List.map_cons,List.map_nil,HW.out.2];exact HO5.out),Hh (Below.trans HB4.out HB5.out)⟩
         case measure => omega
       ·obtain rfl:nl = j:=by omega
        have htk:ds.take nl = ds:=List.take_of_length_le (by rw [HNL.out.1];exact Nat.le_refl _)
        rw [htk] at HAL HO;obtain ⟨D,cD,hv,hcD,hnd⟩:=HO.out.new;rw [show (ds.map whlV).length = nl by rw [List.length_map];exact HNL.out.1] at hv hcD
        subst hv;have HRX:Hid (readR (d + 1) s = itemsR (readR d) (ds.map whlV) q):=Hh (by rw [HRY.out,if_pos HAL.out])
        have hz1:w1.heap.size ≤ B:=by rw [← HBE.out];exact HG.out.size
        have HND:Hid (NewN w1.heap.size D (ds.map whlV) wr):=Hh (hnd.keep fun b hb => ⟨⟨Nat.le_trans hz1 hb.1,hb.2⟩,rfl⟩);have HSL:Hid ((ds.map whlV).length = nl ∧ nl ≤ 1100000):=Hh ⟨by rw [List.length_map];exact HNL.out.1,by have:=HNL.out.2;omega⟩
        have HGW:=Hh (HG.out.trans HGR.out);clear hnd HO HAL hz1 htk HRY;generalize ds.map whlV = shp at *;go_wp2_with fail;refine (HIT.out w1.heap.size D nl cD shp q wr HGW.out.size HSL.out.1 HSL.out.2 HND.out hrl).mono ?_;rintro e v3 hx;obtain ⟨hb3,A3,n3,c3,m3,t3,β3,rfl,hn3,hc3,hm3,hns3,ho3⟩:=hx;have HB3:=Hh (Below.trans HGW.out hb3);have HNS3:=Hh hns3;have HL3:=Hh (show m3.length = n3 ∧ n3 ≤ c3 ∧ n3 ≤ 1000000 from ⟨hn3,hc3,hm3⟩);have HO3:=Hh ho3;clear hb3 hns3 ho3 hn3 hc3 hm3 HIT;go_wp2;go_ret3;exact ⟨HB3.out,A3,n3,c3,m3,t3,β3,rfl,HL3.out.1,HL3.out.2.1,HL3.out.2.2,HNS3.out,by rw [HRX.out];exact HO3.out⟩
theorem read_all:∀ d,d ≤ 99 → KidC d ∧ RdC (d + 1)
 | 0,h => ⟨kid_zero,read_succ (by omega) kid_zero⟩
 | d + 1,h => by
  have h1:=(read_all d (by omega)).2
  exact ⟨kid_succ (by omega) h1,read_succ (by omega) (kid_succ (by omega) h1)⟩
def DParP (o:Option (List Nd)) (w:World) (e:Ending) (w':World):Prop :=
 Grow w w' ∧ match o with
  | none => e = .returned (.tuple #[.slice none 0 0,.bool false])
  | some a => ∃ A c,e = .returned (.tuple #[.slice A a.length c,.bool true]) ∧ a.length ≤ c ∧ Nodes w' w'.heap.size A a
theorem dparse_any (s:List UInt8) (hl:s.length ≤ 100000) (w:World) :
  Calls Tryz.prog 12 #[.string ⟨s.toArray⟩] w (DParP (parseN s) w):=by
 have HR:=Hh ((read_all 15 (by omega)).2 s w hl)
 have HTK:=Hh (fun (t:List UInt8) (a:List Nd) (h:readR 16 s = some (a,t)) => readR_took 16 s a t hl h);have HPN:Hid (parseN s = (readR 16 s).bind fun p => if p.2 = [] ∧ noteT p.1 = s then some p.1 else none):=Hh rfl
 obtain ⟨o,ho⟩:∃ o,parseN s = o:=⟨_,rfl⟩;rw [ho] at HPN ⊢;clear ho
 go_enter Tryz.func12,Tryz.ntmps12
 go_wp2_with fail;refine (HR.out).mono ?_;rintro e w1 ⟨hb1,A,n,c,ms,t,β,rfl,hn,hc,hm,hns,ho⟩;have HG:=Hh (show Grow w w1 from hb1);clear hb1 HR
 cases β with
 | false =>
  have HN:Hid (o = none):=Hh (by rw [HPN.out,ho];rfl)
  clear ho hns hn hc hm;go_wp2;go_ret2;rw [HN.out];exact ⟨HG.out,rfl⟩
 | true =>
  have ho':readR 16 s = some (ms,t):=ho;obtain ⟨hlen,htrim⟩:=HTK.out t ms ho';have hf:Fine ms:=⟨by omega,htrim.1,htrim.2.1⟩
  have HNO:=Hh hns.nodes;have HTX:=Hh (dtext_any A n c ms w1 hn hc hf htrim.2.2 hns.nodes);have HON:Hid (o = if t = [] ∧ noteT ms = s then some ms else none):=Hh (by rw [HPN.out,ho',Option.bind_some])
  have HNL:=Hh (show ms.length = n ∧ n ≤ c from ⟨hn,hc⟩);clear ho ho' hlen htrim hf hns hn hc hm HTK HPN
  cases t with
  | cons b t =>
   have ht:((b :: t:List UInt8) == []) = false:=rfl;have HN:Hid (o = none):=Hh (by rw [HON.out,if_neg (by rintro ⟨h,_⟩;cases h)])
   generalize (b :: t:List UInt8) = r at *;clear HTX HON;go_wp2;go_ret2;rw [HN.out];exact ⟨HG.out,rfl⟩
  | nil =>
   by_cases he:noteT ms = s
   ·have hs:(noteT ms == s) = true:=by rw [he];simp
    have HN:Hid (o = some ms):=Hh (by rw [HON.out,if_pos ⟨rfl,he⟩])
    generalize noteT ms = T at *;clear he HON;go_wp2_with fail;refine (HTX.out).mono ?_;rintro e w2 ⟨rfl,hg⟩;have HG2:=Hh (HG.out.trans hg);have HN2:=Hh (HNO.out.grow hg);clear hg HTX;go_wp2;go_ret2;rw [HN.out];refine ⟨HG2.out,?_⟩;exact ⟨A,c,by rw [HNL.out.1];rfl,by rw [HNL.out.1];exact HNL.out.2,HN2.out⟩
   ·have hs:(noteT ms == s) = false:=by rw [beq_eq_false_iff_ne];exact he
    have HN:Hid (o = none):=Hh (by rw [HON.out,if_neg (fun h => he h.2)])
    generalize noteT ms = T at *;clear he HON;go_wp2_with fail;refine (HTX.out).mono ?_;rintro e w2 ⟨rfl,hg⟩;have HG2:=Hh (HG.out.trans hg);clear hg HTX;go_wp2;go_ret2;rw [HN.out];exact ⟨HG2.out,rfl⟩
open Go.RowKit Go.Lib
theorem par_slice {o:Option (List Nd)} {w w':World} {e:Ending} (h:ParP o w e w'):∃ A c,e = .returned (.tuple #[.slice A (o.getD []).length c,.bool o.isSome]) ∧ Nodes w' w'.heap.size A (o.getD []) ∧ Grow w w':=by
 obtain ⟨hg,h⟩:=h
 cases o with
 | none => exact ⟨none,0,h,fun h => absurd h (by simp),hg⟩
 | some a => obtain ⟨A,c,rfl,_,hn⟩:=h;exact ⟨A,c,rfl,hn.nodes,hg⟩
theorem dpar_slice {o:Option (List Nd)} {w w':World} {e:Ending} (h:DParP o w e w'):∃ A c,e = .returned (.tuple #[.slice A (o.getD []).length c,.bool o.isSome]) ∧ Nodes w' w'.heap.size A (o.getD []) ∧ Grow w w':=by
 obtain ⟨hg,h⟩:=h
 cases o with
 | none => exact ⟨none,0,h,fun h => absurd h (by simp),hg⟩
 | some a => obtain ⟨A,c,rfl,_,hn⟩:=h;exact ⟨A,c,rfl,hn,hg⟩
theorem ltells_walk (A:Option Addr) (n c:Nat) (xs:List Nd) (l:List UInt8) (w:World) (hx:IsNodes w A n c xs) (hL:LaidN w) (hl:l.length ≤ 9223372036854775807) :
  Calls Tryz.prog 3 #[.slice A n c,.string ⟨l.toArray⟩] w (Says true w):=by
 have HX:=Hh hx;have HL:=Hh hL;have hsz:(⟨l.toArray⟩:ByteArray).size = l.length:=by simp [ByteArray.size]
 clear hx hL
 by_cases k2:500 < l.length
 ·have k2i:((500:Int) < ((l.length:Nat):Int)):=by omega
  generalize (⟨l.toArray⟩:ByteArray) = S at *
  go_enter Tryz.func3,Tryz.ntmps3
  go_wp2_with fail;refine (small_any _ HL.out).mono ?_;rintro e w1 ⟨rfl,hg1⟩;have HG1:=Hh hg1;clear hg1;go_wp2_with fail;refine (few_any A n c xs w _ HX.out HG1.out).mono ?_;rintro e w2 ⟨rfl,hg2⟩;have HG2:=Hh (HG1.out.trans hg2);clear hg2 HG1;obtain ⟨β,hβ⟩:∃ β,fewB xs = β:=⟨_,rfl⟩;rw [hβ];clear hβ
  cases β with
  | false =>
   go_wp2;go_ret;exact ⟨rfl,HG2.out⟩
  | true =>
   go_wp2;go_ret;exact ⟨rfl,HG2.out⟩
 have k2i:¬ ((500:Int) < ((l.length:Nat):Int)):=by omega
 have HP:=Hh (fun W hW => pparse_any l (by omega) W hW)
 have HD:=Hh (fun W => dparse_any l (by omega) W)
 have HFO:Hid (Fine ((parseN l).getD [])):=Hh (by
  cases hq:parseN l with
  | none => exact fine_nil
  | some a => exact (parse_all (by omega) hq).1)
 obtain ⟨o,ho⟩:∃ o,parseN l = o:=⟨_,rfl⟩;rw [ho] at HP HD HFO;clear ho k2 hl;generalize (⟨l.toArray⟩:ByteArray) = S at *
 go_enter Tryz.func3,Tryz.ntmps3
 go_wp2_with fail;refine (small_any _ HL.out).mono ?_;rintro e w1 ⟨rfl,hg1⟩;have HG1:=Hh hg1;clear hg1;go_wp2_with fail;refine (few_any A n c xs w _ HX.out HG1.out).mono ?_;rintro e w2 ⟨rfl,hg2⟩;have HG2:=Hh (HG1.out.trans hg2);clear hg2 HG1
 cases hfx:fewB xs with
 | false =>
  go_wp2;go_ret;exact ⟨rfl,HG2.out⟩
 | true =>
  obtain ⟨hfine,hslim,hn100⟩:=few_fine HX.out hfx;have HN:=Hh HX.out.1;have hnc:n ≤ c:=HX.out.2.1;have HNA:=Hh (HX.out.2.2.2.1.grow HG2.out);have HTX:=Hh (fun W h hW => ptext_any A n c xs W HN.out hnc hfine hslim h hW);have HTD:=Hh (fun W h => dtext_any A n c xs W HN.out hnc hfine hslim h);obtain ⟨T,hT⟩:∃ T,noteT xs = T:=⟨_,rfl⟩;rw [hT] at HTX HTD;obtain ⟨k,hk⟩:∃ k,(o.getD []).length = k:=⟨_,rfl⟩;obtain ⟨γ,hγ⟩:∃ γ,o.isSome = γ:=⟨_,rfl⟩;have HK:=Hh hk;have HGM:=Hh hγ;clear hfx hfine hslim HX hT hk hγ;go_wp2_with fail;refine (HP.out _ (HL.out.grow HG2.out)).mono ?_;rintro e w3 hx;obtain ⟨A3,c3,rfl,hn3,hg3⟩:=par_slice hx;rw [HK.out,HGM.out];have HG3:=Hh (HG2.out.trans hg3);have HN3:=Hh hn3;have HNA3:=Hh (HNA.out.grow hg3);clear hx hn3 hg3 HP;go_wp2_with fail;refine (HD.out _).mono ?_;rintro e w4 hx;obtain ⟨A4,c4,rfl,hn4,hg4⟩:=dpar_slice hx;rw [HK.out,HGM.out];have HG4:=Hh (HG3.out.trans hg4);have HN4:=Hh hn4;have HN34:=Hh (HN3.out.grow hg4);have HNA4:=Hh (HNA3.out.grow hg4);clear hx hn4 hg4 HD HN3 HNA3;go_wp2_with fail;refine (HTX.out _ HNA4.out (HL.out.grow HG4.out)).mono ?_;rintro e w5 ⟨rfl,hg5⟩;have HG5:=Hh (HG4.out.trans hg5);have HN45:=Hh (HN4.out.grow hg5);have HN35:=Hh (HN34.out.grow hg5);have HNA5:=Hh (HNA4.out.grow hg5);clear hg5 HTX HN4 HN34 HNA4;go_wp2_with fail;refine (HTD.out _ HNA5.out).mono ?_;rintro e w6 ⟨rfl,hg6⟩
  have HG6:=Hh (HG5.out.trans hg6);have HSM:=Hh (rsame_says (xs:=o.getD []) (ys:=o.getD []) (by simp) A3 A4 k k c3 c4 w6 HK.out HK.out HFO.out HFO.out (HN35.out.grow hg6) (HN45.out.grow hg6))
  have hst:(T == T) = true:=by simp
  clear hg6 HTD HN45 HN35 HNA5;go_wp2_with fail;refine (HSM.out).mono ?_;rintro e w7 ⟨rfl,hg7⟩;have HG7:=Hh (HG6.out.trans hg7);clear hg7 HSM
  cases γ with
  | true =>
   go_wp2;go_ret;exact ⟨rfl,HG7.out⟩
  | false =>
   go_wp2;go_ret;exact ⟨rfl,HG7.out⟩
end Go.Proofs.YteoogioanjkacaaGreatDoor
