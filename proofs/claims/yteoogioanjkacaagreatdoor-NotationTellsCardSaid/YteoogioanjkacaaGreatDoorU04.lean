/-
  Contracts, joined: MathA, RNormsA, TightA, Looks, Kids, PreA, SamesA, SmallM. Nothing is claimed here by itself.
-/
import Derived.Test.YteoogioanjkacaaGreatDoorU01
import Derived.Test.YteoogioanjkacaaGreatDoorU02
import Derived.Test.YteoogioanjkacaaGreatDoorU03
import Derived.Test.YteoogioanjkacaaGreatDoorProg
import Derived.WalkKit
import Derived.ProofKit
import Derived.Lib.Hide
import Derived.Deep.LoopGhost
import Derived.BigQuiet
import Derived.BigRegion
set_option maxRecDepth 100000
set_option maxHeartbeats 12800000
set_option linter.unusedSimpArgs false
set_option linter.unusedVariables false
section
namespace Go.Proofs.YteoogioanjkacaaGreatDoor
theorem take_some {l:List Nd} (h:0 < takeA l):∃ s,fstD l = some s ∧ s.n = takeA l:=by
 cases hf:fstD l with
 | none => unfold takeA at h;rw [fs_none hf] at h;simp [st0] at h
 | some s => exact ⟨s,rfl,by unfold takeA;rw [fs_some hf]⟩
theorem take_zero {l:List Nd} (h:fstD l = none):takeA l = 0:=by unfold takeA;rw [fs_none h];rfl
theorem take_le (l:List Nd):takeA l ≤ l.length:=by
 by_cases h:0 < takeA l
 ·obtain ⟨s,hs,hn⟩:=take_some h
  rw [← hn];exact (par_len (fst_some hs).1).2.1
 ·omega
theorem take_right {l:List Nd} (h:0 < takeA l):rightA (l.take (takeA l)) = true:=by
 obtain ⟨s,hs,hn⟩:=take_some h;have hp:=par_take (fst_some hs).1 (k:=s.n) (Nat.le_refl _);have hl:=(par_len (fst_some hs).1).2.1;have hw:=whl_mk hp (fst_some hs).2 (by rw [List.length_take];omega)
 rw [hn] at hw;unfold rightA;rw [hw];rfl
theorem right_take {l:List Nd} (h:rightA l = true):takeA l = l.length ∧ 0 < takeA l:=by
 obtain ⟨s,hs⟩:=right_some h;obtain ⟨hp,hi,hn⟩:=whl_some hs;have hf:=fst_mk hp hi;have:takeA l = s.n:=by unfold takeA;rw [fs_some hf]
 rw [this];exact ⟨hn,(par_len hp).1⟩
theorem right_iff_take (l:List Nd):rightA l = (decide (0 < takeA l) && decide (takeA l = l.length)):=by
 cases hr:rightA l with
 | true =>
  obtain ⟨h1,h2⟩:=right_take hr;simp [h1];omega
 | false =>
  symm
  rw [Bool.and_eq_false_iff]
  by_cases h:0 < takeA l
  ·right
   rw [decide_eq_false_iff_not];intro he;have:=take_right h;rw [he,List.take_length,hr] at this
   cases this
  ·left
   exact decide_eq_false h
theorem ok_tot {n:Nd} (h:okB n = true):(n.kind = 5 ∧ n.ints.length + n.decs.length = 0 ∧ kc n = cnt n.shp) ∨ (n.kind ≠ 5 ∧ n.ints.length + n.decs.length = cnt n.shp ∧ kc n = 0):=by
 simp only [okB,Bool.and_eq_true] at h;have hf:=h.2;unfold fillB at hf
 by_cases h5:n.kind = 5
 ·left
  rw [h5] at hf;simp at hf;exact ⟨h5,by rw [hf.1,hf.2];rfl,by simp [kc,h5]⟩
 ·right
  refine ⟨h5,?_,by simp [kc,h5]⟩
  by_cases h1:n.kind = 1
  ·simp [h1] at hf;rw [hf.1.1,hf.1.2];rfl
  ·by_cases h2:n.kind = 2
   ·simp [h2] at hf;rw [hf.1,hf.2];rfl
   ·by_cases h3:n.kind = 3
    ·simp [h3] at hf;rw [hf.1.1,hf.1.2];rfl
    ·by_cases h4:n.kind = 4
     ·simp [h4] at hf;rw [hf.1.1,hf.1.2];simp
     ·simp [h1,h2,h3,h4,h5] at hf
theorem parK_tot {f:List Nd → Option St} (hf:∀ l s,f l = some s → s.i + 1 = tot (l.take s.n) + s.n):∀ {c:Nat} {l:List Nd} {t:St},parK f c l = some t → t.i + c = tot (l.take t.n) + t.n
 | 0,l,t,h => by rw [parK_zero] at h;cases h;rfl
 | c + 1,l,t,h => by
  obtain ⟨a,b,ha,hb,rfl⟩:=parK_some h;have h1:=parK_tot hf ha;have h2:=hf _ _ hb;have h3:tot (l.take (a.n + b.n)) = tot (l.take a.n) + tot ((l.drop a.n).take b.n):=by rw [← tot_app,← List.take_add]
  simp only [St.plus];rw [h3];omega
theorem par_tot:∀ {d:Nat} {l:List Nd} {s:St},par d l = some s → s.i + 1 = tot (l.take s.n) + s.n
 | 0,l,s,h => by cases h
 | d + 1,l,s,h => by
  obtain ⟨e,n,l',t,he,rfl,hn,ht,rfl⟩:=par_parts h;obtain rfl:d = e:=by omega
  have h1:=parK_tot (fun l s h => par_tot h) ht;simp only [top,List.take_succ_cons,tot]
  rcases ok_tot hn with ⟨_,h2,h3⟩ | ⟨_,h2,h3⟩
  ·rw [h3] at h1;omega
  ·rw [h3] at h1;omega
def dmax:List (List Nd) → Nat
 | [] => 0
 | k :: ks => max (ws k).d (dmax ks)
theorem take_kid {ks:List (List Nd)} {k:Nat} (h:k < ks.length):ks.take (k + 1) = ks.take k ++ [ks.getD k []]:=by
 rw [List.take_add_one];congr 1;simp [List.getD,h]
theorem kd_all:∀ {c:Nat} {l:List Nd} {t:St},parK (par 15) c l = some t → t.n = l.length → t.i ≤ 1048576 →
  (kd l).length = c ∧ (∀ k ∈ kd l,rightA k = true) ∧ isum (kd l) = t.i ∧ dmax (kd l) = t.d ∧ flatK (kd l) = l ∧ ∀ m,m + t.i ≤ 1048576 → holdK m (kd l) = true
 | 0,l,t,h,hn,_ => by
  rw [parK_zero] at h
  cases h
  have:l = []:=List.eq_nil_of_length_eq_zero (by simp [st0] at hn;omega)
  subst this;rw [kd_nil];exact ⟨rfl,(fun k hk => by cases hk),rfl,rfl,rfl,fun _ _ => rfl⟩
 | c + 1,l,t,h,hn,hi => by
  obtain ⟨a,b,ha,hb,rfl⟩:=parK_cons h;simp only [St.plus] at hn hi;have hlen:=par_len ha;have h16:par 16 l = some a:=par_depth ha 16 (by omega)
  have hta:takeA l = a.n:=by unfold takeA;rw [fs_some (fst_mk h16 (by omega))]
  have hl:l ≠ []:=fun e => by subst e;simp at hlen;omega
  obtain ⟨i1,i2,i3,i4,i5,i6⟩:=kd_all hb (by rw [List.length_drop];omega) (by omega)
  have hw:whlD (l.take a.n) = some a:=whl_mk (par_take h16 (Nat.le_refl _)) (by omega) (by rw [List.length_take];omega)
  rw [kd_step hl (by rw [hta];omega),hta]
  refine ⟨by rw [List.length_cons,i1],fun k hk => ?_,?_,?_,?_,fun m hm => ?_⟩
  ·rcases List.mem_cons.1 hk with rfl | hk
   ·unfold rightA;rw [hw];rfl
   ·exact i2 k hk
  ·simp only [isum,ws_some hw,i3,St.plus]
  ·simp only [dmax,ws_some hw,i4,St.plus]
  ·simp only [flatK,i5,List.take_append_drop]
  ·have hd:a.d < 16:=by omega
   have hmi:m + a.i ≤ 1048576:=by simp only [St.plus] at hm;omega
   have hr:rightA (l.take a.n) = true:=by unfold rightA;rw [hw];rfl
   simp only [holdK,holdB1,ws_some hw,hr,hd,hmi,decide_true,Bool.true_and,Bool.and_true];exact i6 _ (by simp only [St.plus] at hm;omega)
theorem kids_plain {xs:List Nd} (hr:rightA xs = true) (hk:(xs.getD 0 nd0).kind ≠ 5):xs.length = 1 ∧ kidsA xs = [] ∧ (ws xs).d = 1 ∧ (ws xs).i = cnt (xs.getD 0 nd0).shp:=by
 obtain ⟨s,hs⟩:=right_some hr;obtain ⟨n,l',t,rfl,hok,ht,rfl,hn,hi⟩:=right_parts hs;have hk':n.kind ≠ 5:=hk;rw [show kc n = 0 by simp [kc,hk'],parK_zero] at ht
 cases ht
 have:l' = []:=List.eq_nil_of_length_eq_zero (by simp [st0] at hn;omega)
 subst this;refine ⟨rfl,by unfold kidsA;rw [hr,if_pos rfl];exact kd_nil,by rw [ws_some hs];rfl,?_⟩
 rw [ws_some hs];simp [top,st0,List.getD]
theorem kids_nest {xs:List Nd} (hr:rightA xs = true) (hk:(xs.getD 0 nd0).kind = 5) :
  (kidsA xs).length = cnt (xs.getD 0 nd0).shp ∧ (∀ k ∈ kidsA xs,rightA k = true) ∧ (ws xs).i = cnt (xs.getD 0 nd0).shp + isum (kidsA xs) ∧ (ws xs).d = dmax (kidsA xs) + 1 ∧
  nest5 (xs.getD 0 nd0).shp :: flatK (kidsA xs) = xs ∧ nestB (xs.getD 0 nd0).shp (kidsA xs) = true:=by
 obtain ⟨s,hs⟩:=right_some hr;obtain ⟨n,l',t,rfl,hok,ht,rfl,hn,hi⟩:=right_parts hs;have hk':n.kind = 5:=hk;simp only [top] at hi;obtain ⟨i1,i2,i3,i4,i5,i6⟩:=kd_all ht hn (by omega)
 have hkid:kidsA (n :: l') = kd l':=by unfold kidsA;rw [hr,if_pos rfl];rfl
 have hkc:kc n = cnt n.shp:=by simp [kc,hk']
 have hn5:nest5 n.shp = n:=by
  rcases ok_tot hok with ⟨_,h0,_⟩ | ⟨h0,_⟩
  ·have h1:n.ints = []:=List.eq_nil_of_length_eq_zero (by omega)
   have h2:n.decs = []:=List.eq_nil_of_length_eq_zero (by omega)
   obtain ⟨k,sh,is,ds⟩:=n;simp only at h1 h2 hk';subst h1 h2 hk';rfl
  ·exact absurd hk' h0
 have hg:((n :: l').getD 0 nd0) = n:=rfl;rw [hg,hkid];refine ⟨by rw [i1,hkc],i2,by rw [ws_some hs,i3];simp only [top];omega,by rw [ws_some hs,i4];rfl,by rw [hn5,i5],?_⟩
 have hit:itm n = cnt n.shp:=by unfold itm;rw [if_pos hok]
 simp only [nestB,hn5,hok,hit,i1,hkc,decide_true,Bool.true_and];exact i6 _ (by omega)
open Go.RowKit
theorem norm_big {m e q:Int} {j:Nat} (hm:In m) (h:m = q * 10 ^ j) (hq:q ≠ 0) (hb:32767 < e + j):norm m e = ((0,0),false):=by
 obtain ⟨q2,i,h2,hq2,_⟩:=parts_in (q_in hm h) hq;have h3:m = q2 * 10 ^ (i + j):=by rw [h,h2,Int.mul_assoc,← Int.pow_add]
 have:=j_le hm h3 (by omega)
 rw [norm_of h3 hq2 (by omega)]
 have:okExp (e + ((i + j:Nat):Int)) = false:=by simp [okExp];omega
 rw [this];rfl
theorem rnorm_any (m e:Int) (w:World) (hm:In m) (he:In e) :
  Calls Tryz.prog 136 #[.agg #[.int .i64 m,.int .i64 e]] w fun x w' =>
   x = .returned (.tuple #[.agg #[.int .i64 (norm m e).1.1,.int .i64 (norm m e).1.2],.bool (norm m e).2]) ∧ Grow w w':=by
 have hm1:=hm.1;have hm2:=hm.2;have he1:=he.1;have he2:=he.2
 have HM:=Hh hm;clear hm he
 go_enter Tryz.func136,Tryz.ntmps136
 by_cases h0:m = 0
 ·subst h0
  go_wp2;exact bodyPost_ret (v:=.tuple #[.agg #[.int .i64 0,.int .i64 0],.bool true]) (by simp [results,Tryz.results136,go_sem]) rfl ⟨by rw [norm_zero],grow_new2 _ _ _⟩
 ·have h0b:(m == 0) = false:=by simpa using h0
  go_wp2
  go_loopg [] m.natAbs (fun gk wr => ∃ (q x:Int) (j:Nat),gk = q.natAbs ∧ Hid (m = q * 10 ^ j) ∧ q ≠ 0 ∧ -9223372036854775808 ≤ q ∧ q ≤ 9223372036854775807 ∧ Hid (x = e + j) ∧ -9223372036854775808 ≤ x ∧ x ≤ 9223372036854775807 ∧
   wr = (w.alloc (.cells #[.int .i64 q,.int .i64 x] 41)).alloc (.cells #[.int .i64 0,.int .i64 0] 41))
  case atStart => exact ⟨m,e,0,rfl,Hh (by simp),h0,hm1,hm2,Hh (by simp),he1,he2,rfl⟩
  case round =>
   obtain ⟨q,x,j,rfl,HQ,hq,hq1,hq2,HX,hx1,hx2,rfl⟩:=hrel
   by_cases hbig:32767 < x
   ·have HN:=Hh (norm_big (e:=e) HM.out HQ.out hq (by rw [← HX.out];exact hbig))
    have hlo:¬ x < -32768:=by omega
    have hle:¬ x ≤ 32767:=by omega
    by_cases ht:q.tmod 10 = 0
    ·go_wp2
     exact bodyPost_ret (v:=.tuple #[.agg #[.int .i64 0,.int .i64 0],.bool false]) (by simp [results,Tryz.results136,go_sem]) rfl ⟨by rw [HN.out],grow_new2 _ _ _⟩
    ·go_wp2
     exact bodyPost_ret (v:=.tuple #[.agg #[.int .i64 0,.int .i64 0],.bool false]) (by simp [results,Tryz.results136,go_sem]) rfl ⟨by rw [HN.out],grow_new2 _ _ _⟩
   ·by_cases h10:q % 10 = 0
    ·have ht:q.tmod 10 = 0:=(tmod_ten q).2 h10
     have hd:q.tdiv 10 = q / 10:=tdiv_ten h10;obtain ⟨q',hq'⟩:∃ q',q / 10 = q':=⟨_,rfl⟩;have HR:Hid (m = q' * 10 ^ (j + 1)):=Hh (by rw [HQ.out,Int.pow_succ,← Int.mul_assoc];rw [show q' * 10 ^ j * 10 = q' * 10 * 10 ^ j by rw [Int.mul_assoc,Int.mul_comm (10 ^ j) 10,← Int.mul_assoc],show q' * 10 = q by omega])
     have hqn:q' ≠ 0:=by omega
     have hxx:=HX.out;rw [hq'] at hd;have HXX:Hid (x + 1 = e + ((j + 1:Nat):Int)):=Hh (by omega)
     have hlt:q'.natAbs < q.natAbs:=by omega
     have hqa:-9223372036854775808 ≤ q':=by omega
     have hqb:q' ≤ 9223372036854775807:=by omega
     clear hxx h10 hq';go_wp2;go_roundg q'.natAbs
     ·exact ⟨q',x + 1,j + 1,rfl,HR,hqn,hqa,hqb,HXX,by omega,by omega,rfl⟩
     ·exact hlt
    ·have ht:¬ q.tmod 10 = 0:=fun h => h10 ((tmod_ten q).1 h)
     have hj:=j_le HM.out HQ.out hq;have HN:=Hh (norm_of (e:=e) HQ.out h10 (by omega))
     by_cases hlo:x < -32768
     ·have hok:okExp (e + (j:Nat)) = false:=by rw [← HX.out];simp [okExp];omega
      rw [hok] at HN;have HN':=Hh HN.out;clear h10 hok HN;go_wp2;exact bodyPost_ret (v:=.tuple #[.agg #[.int .i64 0,.int .i64 0],.bool false]) (by simp [results,Tryz.results136,go_sem]) rfl ⟨by rw [HN'.out];rfl,grow_new2 _ _ _⟩
     ·have hok:okExp (e + (j:Nat)) = true:=by rw [← HX.out];simp [okExp];omega
      rw [hok] at HN;have HN':=Hh HN.out;clear h10 hok HN;go_wp2;exact bodyPost_ret (v:=.tuple #[.agg #[.int .i64 q,.int .i64 x],.bool true]) (by simp [results,Tryz.results136,go_sem]) rfl ⟨by rw [HN'.out,HX.out];rfl,grow_new2 _ _ _⟩
theorem rright_any (m e:Int) (w:World) (hm:In m) (he:In e) :
  Calls Tryz.prog 102 #[.agg #[.int .i64 m,.int .i64 e]] w fun x w' => x = .returned (.bool (rightD m e)) ∧ Grow w w':=by
 obtain ⟨r1,r2,b,hN⟩:∃ r1 r2 b,norm m e = ((r1,r2),b):=⟨_,_,_,rfl⟩;have HC:Hid (∀ W,Calls Tryz.prog 136 #[.agg #[.int .i64 m,.int .i64 e]] W fun x w' => x = .returned (.tuple #[.agg #[.int .i64 r1,.int .i64 r2],.bool b]) ∧ Grow W w') :=
  Hh (fun W => by have h:=rnorm_any m e W hm he;rw [hN] at h;exact h)
 have HN:=Hh hN;clear hN
 go_enter Tryz.func102,Tryz.ntmps102
 go_wp2_with fail;refine (HC.out _).mono ?_;rintro x w1 ⟨rfl,hg⟩;have hb:=(boxed_new w (.int .i64 m) (.int .i64 e) 41).grow hg;have hc0:∀ o,(w1.alloc o).cell? ⟨w.heap.size,0,none⟩ = some (.int .i64 m):=fun o => (hb.grow (grow_new _ o)).fst;have hc1:∀ o,(w1.alloc o).cell? ⟨w.heap.size,1,none⟩ = some (.int .i64 e):=fun o => (hb.grow (grow_new _ o)).snd;have HG:=Hh ((grow_new w _).trans hg);clear hb hg HC
 cases b
 ·go_wp2
  go_ret;exact ⟨by unfold rightD;rw [HN.out];simp,HG.out.trans (grow_new _ _)⟩
 ·by_cases h1:r1 = m
  ·subst h1
   by_cases h2:r2 = e
   ·subst h2
    go_wp2;go_ret;exact ⟨by unfold rightD;rw [HN.out];simp,HG.out.trans (grow_new _ _)⟩
   ·have h2':(r2 == e) = false:=by simpa using h2
    go_wp2;go_ret;exact ⟨by unfold rightD;rw [HN.out];simp [h2],HG.out.trans (grow_new _ _)⟩
  ·have h1':(r1 == m) = false:=by simpa using h1
   go_wp2
   all_goals
    go_ret;exact ⟨by unfold rightD;rw [HN.out];simp [h1],HG.out.trans (grow_new _ _)⟩
open Go.RowKit
instance (n:Int):Decidable (In n):=by unfold In;exact inferInstance
def wholeD (m e:Int):Int × Bool:=if rightD m e = true ∧ 0 ≤ e ∧ In (m * 10 ^ e.toNat) then (m * 10 ^ e.toNat,true) else (0,false)
theorem far {n:Int} (k:Nat) (h:¬ In n):¬ In (n * 10 ^ k):=by
 intro hi;exact h (q_in hi rfl)
theorem whole_not {m e n:Int} {i E:Nat} (hn:n = m * 10 ^ i) (hE:e = (E:Nat)) (hi:i < E) (h:¬ In (n * 10)):wholeD m e = (0,false):=by
 unfold wholeD;rw [if_neg];rintro ⟨_,_,hin⟩;subst hE;rw [Int.toNat_natCast,show E = (i + 1) + (E - (i + 1)) by omega,Int.pow_add,← Int.mul_assoc,Int.pow_succ,← Int.mul_assoc,← hn] at hin
 exact far _ h hin
theorem whole_yes {m e n:Int} {E:Nat} (hr:rightD m e = true) (hE:e = (E:Nat)) (hn:n = m * 10 ^ E) (hin:In n):wholeD m e = (n,true):=by
 subst hE;unfold wholeD;rw [Int.toNat_natCast,← hn,if_pos ⟨hr,by omega,hin⟩]
theorem whole_wrong {m e:Int} (h:rightD m e = false ∨ e < 0):wholeD m e = (0,false):=by
 unfold wholeD;rw [if_neg];rintro ⟨h1,h2,_⟩
 rcases h with h | h
 ·rw [h] at h1;cases h1
 ·omega
theorem dwhole_any (m e:Int) (w:World) (hm:In m) (he:In e) :
  Calls Tryz.prog 24 #[.agg #[.int .i64 m,.int .i64 e]] w fun x w' => x = .returned (.tuple #[.int .i64 (wholeD m e).1,.bool (wholeD m e).2]) ∧ Grow w w':=by
 have HC:=Hh (fun W => right_any m e W hm he);have hm1:=hm.1;have hm2:=hm.2;have he1:=he.1;have he2:=he.2
 clear hm he
 go_enter Tryz.func24,Tryz.ntmps24
 go_wp2_with fail;refine (HC.out _).mono ?_;rintro x w1 ⟨rfl,hg⟩;have hb:=(boxed_new w (.int .i64 m) (.int .i64 e) 41).grow hg;have hc0:=hb.fst;have hc1:=hb.snd;have HG:=Hh ((grow_new w _).trans hg);clear hb hg HC;obtain ⟨r,hr⟩:∃ r,rightD m e = r:=⟨_,rfl⟩;rw [hr]
 cases r
 ·have HW:=Hh (whole_wrong (.inl hr))
  clear hr;go_wp2;go_ret2;exact ⟨by rw [HW.out];rfl,HG.out⟩
 ·by_cases hneg:e < 0
  ·have HW:=Hh (whole_wrong (m:=m) (.inr hneg))
   clear hr;go_wp2;go_ret2;exact ⟨by rw [HW.out];rfl,HG.out⟩
  ·obtain ⟨E,rfl⟩:=Int.eq_ofNat_of_zero_le (show 0 ≤ e by omega)
   have HR:=Hh hr;clear hr;go_wp2
   go_loopg [4,17] E (fun gk s4 s17 wr => ∃ (n:Int) (i:Nat),gk = E - i ∧ i ≤ E ∧ s4 = .int .i64 n ∧ s17 = .int .i64 i ∧ Hid (n = m * 10 ^ i) ∧ -9223372036854775808 ≤ n ∧ n ≤ 9223372036854775807 ∧ w1 = wr)
   case atStart => exact ⟨m,0,rfl,by omega,rfl,rfl,Hh (by simp),hm1,hm2,rfl⟩
   case round =>
    obtain ⟨n,i,rfl,hiE,rfl,rfl,HN,hn1,hn2,rfl⟩:=hrel
    by_cases hlt:i < E
    ·by_cases hhi:922337203685477580 < n
     ·have HW:=Hh (whole_not HN.out rfl hlt (fun h => by have:=h.2;omega))
      go_wp2;go_ret2;exact ⟨by rw [HW.out];rfl,HG.out⟩
     ·by_cases hlo:n < -922337203685477580
      ·have HW:=Hh (whole_not HN.out rfl hlt (fun h => by have:=h.1;omega))
       go_wp2;go_ret2;exact ⟨by rw [HW.out];rfl,HG.out⟩
      ·have HN':Hid (n * 10 = m * 10 ^ (i + 1)):=Hh (by rw [HN.out,Int.pow_succ,Int.mul_assoc])
       have hE9:(E:Int) ≤ 9223372036854775807:=he2;go_wp2;go_roundg (E - (i + 1))
       ·exact ⟨n * 10,i + 1,rfl,hlt,rfl,rfl,HN',by omega,by omega,rfl⟩
       ·omega
    ·have hi:i = E:=by omega
     subst hi;have HW:=Hh (whole_yes HR.out rfl HN.out ⟨hn1,hn2⟩);clear hlt;go_wp2;go_ret2;exact ⟨by rw [HW.out];rfl,HG.out⟩
theorem whole_far {m e:Int} (hm:In m) (he:18 < e):wholeD m e = (0,false):=by
 unfold wholeD;rw [if_neg];rintro ⟨hr,_,hin⟩;have hq:m ≠ 0:=by
  intro h0;subst h0
  rcases (rightD_iff hm).1 hr with ⟨_,h⟩ | ⟨h,_⟩ <;> omega
 have:=j_le hin rfl hq;omega
theorem rwhole_any (m e:Int) (w:World) (hm:In m) (he:In e) :
  Calls Tryz.prog 58 #[.agg #[.int .i64 m,.int .i64 e]] w fun x w' => x = .returned (.tuple #[.int .i64 (wholeD m e).1,.bool (wholeD m e).2]) ∧ Grow w w':=by
 have HC:=Hh (fun W => rright_any m e W hm he);have HM:=Hh hm;have hm1:=hm.1;have hm2:=hm.2;have he1:=he.1;have he2:=he.2
 clear hm he
 go_enter Tryz.func58,Tryz.ntmps58
 go_wp2_with fail;refine (HC.out _).mono ?_;rintro x w1 ⟨rfl,hg⟩;have hb:=(boxed_new w (.int .i64 m) (.int .i64 e) 41).grow hg;have hc0:=hb.fst;have hc1:=hb.snd;have HG:=Hh ((grow_new w _).trans hg);clear hb hg HC;obtain ⟨r,hr⟩:∃ r,rightD m e = r:=⟨_,rfl⟩;rw [hr]
 cases r
 ·have HW:=Hh (whole_wrong (.inl hr))
  clear hr;go_wp2;go_ret2;exact ⟨by rw [HW.out];rfl,HG.out⟩
 ·by_cases hneg:e < 0
  ·have HW:=Hh (whole_wrong (m:=m) (.inr hneg))
   clear hr;go_wp2;go_ret2;exact ⟨by rw [HW.out];rfl,HG.out⟩
  ·by_cases hfar:18 < e
   ·have HW:=Hh (whole_far HM.out hfar)
    clear hr;go_wp2;go_ret2;exact ⟨by rw [HW.out];rfl,HG.out⟩
   ·obtain ⟨E,rfl⟩:=Int.eq_ofNat_of_zero_le (show 0 ≤ e by omega)
    have HR:=Hh hr;have hE18:E ≤ 18:=by omega
    clear hr;go_wp2
    go_loopg [4,5] E (fun gk s4 s5 wr => ∃ (n:Int) (i:Nat),gk = E - i ∧ i ≤ E ∧ s4 = .int .i64 n ∧ s5 = .int .i64 i ∧ Hid (n = m * 10 ^ i) ∧ -9223372036854775808 ≤ n ∧ n ≤ 9223372036854775807 ∧ w1 = wr)
    case atStart => exact ⟨m,0,rfl,by omega,rfl,rfl,Hh (by simp),hm1,hm2,rfl⟩
    case round =>
     obtain ⟨n,i,rfl,hiE,rfl,rfl,HN,hn1,hn2,rfl⟩:=hrel
     by_cases hlt:i < E
     ·by_cases hhi:922337203685477580 < n
      ·have HW:=Hh (whole_not HN.out rfl hlt (fun h => by have:=h.2;omega))
       go_wp2;go_ret2;exact ⟨by rw [HW.out];rfl,HG.out⟩
      ·by_cases hlo:n < -922337203685477580
       ·have HW:=Hh (whole_not HN.out rfl hlt (fun h => by have:=h.1;omega))
        go_wp2;go_ret2;exact ⟨by rw [HW.out];rfl,HG.out⟩
       ·have HN':Hid (10 * n = m * 10 ^ (i + 1)):=Hh (by rw [HN.out,Int.pow_succ,Int.mul_comm,Int.mul_assoc])
        go_wp2;go_roundg (E - (i + 1))
        ·exact ⟨10 * n,i + 1,rfl,hlt,rfl,rfl,HN',by omega,by omega,rfl⟩
        ·omega
     ·have hi:i = E:=by omega
      subst hi;have HW:=Hh (whole_yes HR.out rfl HN.out ⟨hn1,hn2⟩);clear hlt;go_wp2;go_ret2;exact ⟨by rw [HW.out];rfl,HG.out⟩
theorem of_any (n:Int) (w:World) (hn:In n) :
  Calls Tryz.prog 20 #[.int .i64 n] w fun x w' => x = .returned (.agg #[.int .i64 (norm n 0).1.1,.int .i64 (norm n 0).1.2]) ∧ Grow w w':=by
 obtain ⟨r1,r2,b,hN⟩:∃ r1 r2 b,norm n 0 = ((r1,r2),b):=⟨_,_,_,rfl⟩;have HC:Hid (∀ W,Calls Tryz.prog 41 #[.agg #[.int .i64 n,.int .i64 0]] W fun x w' => x = .returned (.tuple #[.agg #[.int .i64 r1,.int .i64 r2],.bool b]) ∧ Grow W w') :=
  Hh (fun W => by have h:=norm_any n 0 W hn (by constructor <;> decide);rw [hN] at h;exact h)
 rw [hN];clear hN
 go_enter Tryz.func20,Tryz.ntmps20
 go_wp2_with fail;refine (HC.out _).mono ?_;rintro x w1 ⟨rfl,hg⟩;have hb:=(boxed_new w (.int .i64 0) (.int .i64 0) 41).grow hg;have hc0:∀ o,(w1.alloc o).cell? ⟨w.heap.size,0,none⟩ = some (.int .i64 0):=fun o => (hb.grow (grow_new _ o)).fst;have hc1:∀ o,(w1.alloc o).cell? ⟨w.heap.size,1,none⟩ = some (.int .i64 0):=fun o => (hb.grow (grow_new _ o)).snd;have hf:∀ o j,(w1.alloc o).frozen? ⟨w.heap.size,j,none⟩ = false:=fun o j => (hb.grow (grow_new _ o)).froz j;have HG:=Hh ((grow_new w _).trans hg);have HB:=Hh hb;clear HC hb hg;go_wp2;have hr:=((HB.out.grow (grow_new _ (.cells #[.int .i64 r1,.int .i64 r2] 41))).put0 (.int .i64 r1)).put1 (.int .i64 r2);exact bodyPost_ret (v:=.agg #[.int .i64 r1,.int .i64 r2]) (by simp [results,Tryz.results20,go_sem,hr.fst,hr.snd]) rfl
  ⟨rfl,((HG.out.trans (grow_new _ _)).put (Nat.le_refl _) 0 _).put (Nat.le_refl _) 1 _⟩
theorem rof_any (n:Int) (w:World) (hn:In n) :
  Calls Tryz.prog 161 #[.int .i64 n] w fun x w' => x = .returned (.agg #[.int .i64 (norm n 0).1.1,.int .i64 (norm n 0).1.2]) ∧ Grow w w':=by
 obtain ⟨r1,r2,b,hN⟩:∃ r1 r2 b,norm n 0 = ((r1,r2),b):=⟨_,_,_,rfl⟩;have HC:Hid (∀ W,Calls Tryz.prog 136 #[.agg #[.int .i64 n,.int .i64 0]] W fun x w' => x = .returned (.tuple #[.agg #[.int .i64 r1,.int .i64 r2],.bool b]) ∧ Grow W w') :=
  Hh (fun W => by have h:=rnorm_any n 0 W hn (by constructor <;> decide);rw [hN] at h;exact h)
 rw [hN];clear hN
 go_enter Tryz.func161,Tryz.ntmps161
 go_wp2_with fail;refine (HC.out _).mono ?_;rintro x w1 ⟨rfl,hg⟩;have hb:=(boxed_new w (.int .i64 0) (.int .i64 0) 41).grow hg;have hc0:∀ o,(w1.alloc o).cell? ⟨w.heap.size,0,none⟩ = some (.int .i64 0):=fun o => (hb.grow (grow_new _ o)).fst;have hc1:∀ o,(w1.alloc o).cell? ⟨w.heap.size,1,none⟩ = some (.int .i64 0):=fun o => (hb.grow (grow_new _ o)).snd;have hf:∀ o j,(w1.alloc o).frozen? ⟨w.heap.size,j,none⟩ = false:=fun o j => (hb.grow (grow_new _ o)).froz j;have HG:=Hh ((grow_new w _).trans hg);have HB:=Hh hb;clear HC hb hg;go_wp2;have hr:=((HB.out.grow (grow_new _ (.cells #[.int .i64 r1,.int .i64 r2] 41))).put0 (.int .i64 r1)).put1 (.int .i64 r2);exact bodyPost_ret (v:=.agg #[.int .i64 r1,.int .i64 r2]) (by simp [results,Tryz.results161,go_sem,hr.fst,hr.snd]) rfl
  ⟨rfl,((HG.out.trans (grow_new _ _)).put (Nat.le_refl _) 0 _).put (Nat.le_refl _) 1 _⟩
theorem of_parts {n:Int} (hn:In n):∃ q j,norm n 0 = ((q,j),true) ∧ In q ∧ In j ∧ rightD q j = true ∧ wholeD q j = (n,true):=by
 obtain ⟨⟨⟨q,j⟩,b⟩,h⟩:∃ r,norm n 0 = r:=⟨_,rfl⟩;have h1:=norm_of_int hn;have h2:=norm_in (e:=0) hn;have h3:=norm_exp_in (e:=0) hn;have h4:=rightD_of (norm_right (e:=0) hn h1);rw [h] at h1 h2 h3 h4;simp only at h1 h2 h3 h4;subst h1;refine ⟨q,j,h,h2,h3,h4,?_⟩
 by_cases h0:n = 0
 ·subst h0
  rw [norm_zero] at h
  cases h
  decide
 ·obtain ⟨q',i,hq,hq0,hi⟩:=parts_in hn h0
  rw [norm_of hq hq0 (by omega)] at h
  split at h
  ·cases h
   exact whole_yes h4 (by simp) hq hn
  ·cases h
open Go.RowKit Go.Lib
def nz (x:Int):Bool:=!(0 == x)
theorem rcount_any (A:Option Addr) (n c:Nat) (xs:List Int) (w:World) (hn:xs.length = n) (hm:n ≤ 9223372036854775807) (hr:Nums .i64 w w.heap.size A xs) :
  Calls Tryz.prog 97 #[.slice A n c] w (Gives (.tuple #[.int .i64 (cnt xs:Nat),.bool (rightB xs)]) w):=by
 have HR:=Hh hr;have HN:=Hh hn;clear hr hn
 by_cases h16:16 < n
 ·have h16i:(16:Int) < ((n:Nat):Int):=by omega
  have HB:=Hh (right_long (xs:=xs) (by rw [HN.out];exact h16))
  have HC:=Hh (cnt_no HB.out);rw [HB.out,HC.out]
  go_enter Tryz.func97,Tryz.ntmps97
  go_wp2;go_ret2;exact ⟨rfl,rfl⟩
 have h16i:¬ (16:Int) < ((n:Nat):Int):=by omega
 go_enter Tryz.func97,Tryz.ntmps97
 go_wp2
 go_loopg [4,5] n (fun g s4 s5 wr => ∃ k q:Nat,k ≤ n ∧ g = n - k ∧ s4 = .int .i64 q ∧ s5 = .int .i64 k ∧ Hid ((xs.drop k).all okI = xs.all okI) ∧ Hid ((q = 1 ∧ (xs.drop k).all nz = xs.all nz) ∨ (q = 0 ∧ xs.all nz = false)) ∧ w = wr)
 case atStart => exact ⟨0,1,Nat.zero_le _,rfl,rfl,rfl,Hh rfl,Hh (.inl ⟨rfl,rfl⟩),rfl⟩
 case round =>
  obtain ⟨k,q,hk,rfl,rfl,rfl,HA,HZ,rfl⟩:=hrel
  by_cases hlt:k < n
  ·have hkl:k < xs.length:=by rw [HN.out];exact hlt
   obtain ⟨b,off,rfl,hb,hcl⟩:=HR.out (by omega)
   have hc:=hcl k hkl;have HT:=Hh (fun h => all_drop (p:=okI) hkl h);have HF:=Hh (fun h => all_fails (p:=okI) hkl h);have HT2:=Hh (fun h => all_drop (p:=nz) hkl h);have HF2:=Hh (fun h => all_fails (p:=nz) hkl h);clear hcl hkl;generalize xs.getD k 0 = x at hc HT HF HT2 HF2
   by_cases h0:x < 0
   ·have hd:decide (x < 0) = true:=decide_eq_true h0
    have HB:=Hh (right_out (xs:=xs) (by rw [← HA.out];exact HF.out (by simp [okI];omega)))
    have HC:=Hh (cnt_no HB.out);go_wp2;go_ret2;exact ⟨by rw [HB.out,HC.out];rfl,rfl⟩
   have hd:decide (x < 0) = false:=decide_eq_false h0
   by_cases h1:1048576 < x
   ·have HB:=Hh (right_out (xs:=xs) (by rw [← HA.out];exact HF.out (by simp [okI];omega)))
    have HC:=Hh (cnt_no HB.out);go_wp2;go_ret2;exact ⟨by rw [HB.out,HC.out];rfl,rfl⟩
   have HA1:=Hh ((HT.out (by simp [okI];omega)).symm.trans HA.out)
   by_cases hx0:x = 0
   ·subst hx0
    have HZ1:Hid (xs.all nz = false):=Hh (by
     rcases HZ.out with ⟨_,h⟩ | ⟨_,h⟩
     ·rw [← h];exact HF2.out rfl
     ·exact h)
    go_wp2;go_roundg (n - (k + 1))
    case rel => exact ⟨k + 1,0,by omega,rfl,rfl,by go_num,HA1,Hh (.inr ⟨rfl,HZ1.out⟩),rfl⟩
    case measure => omega
   ·have hxb:(x == 0) = false:=beq_eq_false_iff_ne.2 hx0
    have HZ1:Hid ((q = 1 ∧ (xs.drop (k + 1)).all nz = xs.all nz) ∨ (q = 0 ∧ xs.all nz = false)):=Hh (by
     rcases HZ.out with ⟨hq,h⟩ | h
     ·left
      refine ⟨hq,?_⟩;rw [← h];refine (HT2.out ?_).symm;unfold nz;have:((0:Int) == x) = false:=beq_eq_false_iff_ne.2 (fun e => hx0 e.symm);rw [this];rfl
     ·exact .inr h)
    go_wp2;go_roundg (n - (k + 1))
    case rel => exact ⟨k + 1,q,by omega,rfl,rfl,by go_num,HA1,HZ1,rfl⟩
    case measure => omega
  ·obtain rfl:n = k:=by omega
   have hd1:xs.drop n = []:=List.drop_of_length_le (by rw [HN.out];exact Nat.le_refl _)
   have HAL:Hid (xs.all okI = true):=Hh (by rw [← HA.out,hd1];rfl)
   rcases HZ.out with ⟨rfl,hz⟩ | ⟨rfl,hz⟩
   ·have HP:=Hh (pos_of_all HAL.out (show xs.all nz = true by rw [← hz,hd1];rfl))
    clear hz hd1 HZ HA;go_wp2
    go_loopg [4,6] n (fun g s5 s20 wr => ∃ k q:Nat,k ≤ n ∧ g = n - k ∧ s5 = .int .i64 q ∧ s20 = .int .i64 k ∧ 1 ≤ q ∧ q ≤ 1048576 ∧ Hid (prodN (toN xs) = q * prodN (toN (xs.drop k))) ∧ w = wr)
    case atStart => exact ⟨0,1,Nat.zero_le _,rfl,rfl,rfl,Nat.le_refl _,by omega,Hh (by simp),rfl⟩
    case round =>
     obtain ⟨k,q,hk,rfl,rfl,rfl,hq1,hq,HQ,rfl⟩:=hrel
     by_cases hlt:k < n
     ·have hkl:k < xs.length:=by rw [HN.out];exact hlt
      obtain ⟨b,off,rfl,hb,hcl⟩:=HR.out (by omega)
      have hc:=hcl k hkl;obtain ⟨m,hm',hmb⟩:=at_ok hkl HAL.out;have HD:=Hh (prod_drop hkl hm');rw [hm'] at hc;clear hcl hkl hm';have hqm:q * m ≤ 1048576 * 1048576:=Nat.mul_le_mul hq hmb;have hpos:=pos_drop HP.out (k + 1);have HPM:Hid (prodN (toN xs) = q * m * prodN (toN (xs.drop (k + 1)))):=Hh (by rw [HQ.out,HD.out,Nat.mul_assoc])
      have HPN:Hid (0 < q * m):=Hh (by
       rcases Nat.eq_zero_or_pos (q * m) with h0 | h0
       ·exact absurd (by rw [HPM.out,h0,Nat.zero_mul]) HP.out
       ·exact h0)
      have HLE:Hid (q * m ≤ prodN (toN xs)):=Hh (by rw [HPM.out];exact Nat.le_mul_of_pos_right _ hpos)
      have hmul:((q:Nat):Int) * ((m:Nat):Int) = ((q * m:Nat):Int):=by simp
      obtain ⟨p,hp⟩:∃ p,q * m = p:=⟨_,rfl⟩;rw [hp] at hmul hqm HPM HPN HLE;have hwr:IntKind.i64.wrap (((q:Nat):Int) * ((m:Nat):Int)) = ((p:Nat):Int):=by rw [hmul,IntKind.wrap_i64];omega
      clear hpos HD hp hmul
      by_cases hgt:1048576 < p
      ·have hgti:(1048576:Int) < ((p:Nat):Int):=by omega
       have HB:Hid (rightB xs = false):=Hh (by
        cases hb:rightB xs with
        | false => rfl
        | true => have:=(right_iff.1 hb).2.2;have:=HLE.out;omega)
       have HC:=Hh (cnt_no HB.out);go_wp2;go_ret2;exact ⟨by rw [HB.out,HC.out];rfl,rfl⟩
      ·have hgti:¬ (1048576:Int) < ((p:Nat):Int):=by omega
       go_wp2;go_roundg (n - (k + 1))
       case rel => exact ⟨k + 1,p,by omega,rfl,rfl,by go_num,HPN.out,by omega,HPM,rfl⟩
       case measure => omega
     ·obtain rfl:n = k:=by omega
      have HE:Hid (prodN (toN xs) = q):=Hh (by rw [HQ.out,List.drop_of_length_le (by rw [HN.out];exact Nat.le_refl _)];simp [toN,prodN])
      have HB:Hid (rightB xs = true):=Hh (right_iff.2 ⟨by rw [HN.out];omega,HAL.out,by rw [HE.out];exact hq⟩)
      have HC:Hid (cnt xs = q):=Hh ((cnt_yes HB.out).trans HE.out);go_wp2;go_ret2;exact ⟨by rw [HB.out,HC.out];rfl,rfl⟩
   ·obtain ⟨hB,hC⟩:=right_zero (xs:=xs) (by rw [HN.out];omega) HAL.out (zero_of_any hz)
    have HB:=Hh hB;have HC:=Hh hC;clear hz hd1 HZ HA hB hC;go_wp2;go_ret2;exact ⟨by rw [HB.out,HC.out];rfl,rfl⟩
def ofD (v:Int):Int × Int:=(norm v 0).1
def whlB (x:Int × Int):Bool:=(wholeD x.1 x.2).2
def whlV (x:Int × Int):Int:=(wholeD x.1 x.2).1
def kindI (xs:List Int):Int:=if xs.length = 0 ∨ xs.all bitB = false then 2 else 1
def leastN (s:List Int) (l:List (Int × Int)):Nd:=if l.all whlB = true then ⟨kindI (l.map whlV),s,l.map whlV,[]⟩ else ⟨4,s,[],l⟩
def valsN (n:Nd):List (Int × Int):=n.ints.map ofD ++ n.decs
def valsK (ns:List Nd):List (Int × Int):=ns.flatMap valsN
def intsK (ns:List Nd):List Int:=ns.flatMap Nd.ints
def deepB (n:Nd):Bool:=n.kind == 5 || decide (0 < n.shp.length)
def signN (n:Nd):Bool:=n.kind == 3
def numN (n:Nd):Bool:=!signN n
def joinO (s:List Int) (ks:List Nd):Option Nd :=
 if (ks.any deepB || (ks.any signN && ks.any numN)) = true then none
 else if ks.any signN = true then some ⟨3,s,intsK ks,[]⟩ else some (leastN s (valsK ks))
def foldO (n:Nd) (ks:List Nd):Option Nd :=
 if n.kind = 3 then some n else if n.kind = 5 then joinO n.shp ks else some (leastN n.shp (valsN n))
def clos (n:Nd) (ks:List Nd):List Nd:=match foldO n ks with
 | some m => [m]
 | none => n :: ks
def catF (p:List Nd → Option St) (f:List Nd → List Nd):Nat → List Nd → List Nd
 | 0,_ => []
 | j + 1,l => catF p f j l ++ match parK p j l with
  | some t => f (l.drop t.n)
  | none => []
def formF:Nat → List Nd → List Nd
 | 0,_ => []
 | _ + 1,[] => []
 | d + 1,n :: l => clos n (catF (par d) (formF d) (kc n) l)
def formA (l:List Nd):List Nd:=formF 16 l
theorem formF_cons (d:Nat) (n:Nd) (l:List Nd):formF (d + 1) (n :: l) = clos n (catF (par d) (formF d) (kc n) l):=rfl
theorem catF_zero (p:List Nd → Option St) (f:List Nd → List Nd) (l:List Nd):catF p f 0 l = []:=rfl
theorem catF_succ {p:List Nd → Option St} {f:List Nd → List Nd} {j:Nat} {l:List Nd} {t:St} (h:parK p j l = some t):catF p f (j + 1) l = catF p f j l ++ f (l.drop t.n):=by
 show catF p f j l ++ _ = _;rw [h]
theorem catF_local {p:List Nd → Option St} {f:List Nd → List Nd} (hp:∀ l s,p l = some s → ∀ r:List Nd,r.take s.n = l.take s.n → p r = some s)
  (hf:∀ l s,p l = some s → ∀ r:List Nd,r.take s.n = l.take s.n → f r = f l) :
  ∀ {c:Nat} {l:List Nd} {t:St},parK p c l = some t → ∀ r:List Nd,r.take t.n = l.take t.n → catF p f c r = catF p f c l
 | 0,l,t,h,r,hr => rfl
 | c + 1,l,t,h,r,hr => by
  obtain ⟨a,b,ha,hb,rfl⟩:=parK_some h;obtain ⟨h1,h2⟩:=take_part (a:=a.n) (b:=b.n) hr;rw [catF_succ ha,catF_succ (parK_local hp ha r h1),catF_local hp hf ha r h1,hf _ _ hb _ h2]
theorem formF_local:∀ {d:Nat} {l:List Nd} {s:St},par d l = some s → ∀ r:List Nd,r.take s.n = l.take s.n → formF d r = formF d l
 | 0,l,s,h,_,_ => by cases h
 | d + 1,l,s,h,r,hr => by
  obtain ⟨e,n,l',t,he,rfl,hn,ht,rfl⟩:=par_parts h;obtain rfl:d = e:=by omega
  cases r with
  | nil => simp [top] at hr
  | cons n' r' =>
   simp only [top,List.take_succ_cons,List.cons.injEq] at hr;obtain ⟨rfl,hr⟩:=hr;rw [formF_cons,formF_cons,catF_local (fun l s h => par_local h) (fun l s h => formF_local h) ht r' hr]
theorem formF_app {d:Nat} {l:List Nd} {s:St} (h:par d l = some s) (r:List Nd):formF d (l ++ r) = formF d l :=
 formF_local h _ (by rw [List.take_append_of_le_length (par_len h).2.1])
theorem formF_take {d:Nat} {l:List Nd} {s:St} (h:par d l = some s) {k:Nat} (hk:s.n ≤ k):formF d (l.take k) = formF d l :=
 formF_local h _ (by rw [List.take_take];congr 1;omega)
theorem catF_depth {p q:List Nd → Option St} {f g:List Nd → List Nd} {e:Nat} (hp:∀ l s,p l = some s → s.d ≤ e → q l = some s) (hf:∀ l s,p l = some s → s.d ≤ e → g l = f l) :
  ∀ {c:Nat} {l:List Nd} {t:St},parK p c l = some t → t.d ≤ e → catF q g c l = catF p f c l
 | 0,l,t,h,_ => rfl
 | c + 1,l,t,h,hd => by
  obtain ⟨a,b,ha,hb,rfl⟩:=parK_some h;simp only [St.plus] at hd;rw [catF_succ ha,catF_succ (parK_depth hp ha (by omega)),catF_depth hp hf ha (by omega),hf _ _ hb (by omega)]
theorem formF_depth:∀ {d:Nat} {l:List Nd} {s:St},par d l = some s → ∀ e,s.d ≤ e → formF e l = formF d l
 | 0,l,s,h,_,_ => by cases h
 | d + 1,l,s,h,e,he => by
  obtain ⟨d',n,l',t,hd,rfl,hn,ht,rfl⟩:=par_parts h;obtain rfl:d = d':=by omega
  simp only [top] at he
  cases e with
  | zero => omega
  | succ e => rw [formF_cons,formF_cons,catF_depth (fun l s h hs => par_depth h e hs) (fun l s h hs => formF_depth h e hs) ht (by omega)]
def Vals (ns:List Nd):Prop:=∀ n ∈ ns,∀ x ∈ n.ints,In x
theorem Vals.take {ns:List Nd} (h:Vals ns) (k:Nat):Vals (ns.take k):=fun n hn => h n (List.mem_of_mem_take hn)
theorem Vals.drop {ns:List Nd} (h:Vals ns) (k:Nat):Vals (ns.drop k):=fun n hn => h n (List.mem_of_mem_drop hn)
theorem Vals.app {a b:List Nd} (h:Vals a) (k:Vals b):Vals (a ++ b):=fun n hn => by
 rcases List.mem_append.1 hn with hn | hn
 ·exact h n hn
 ·exact k n hn
theorem Fits.app {a b:List Nd} (h:Fits a) (k:Fits b):Fits (a ++ b):=fun n hn => by
 rcases List.mem_append.1 hn with hn | hn
 ·exact h n hn
 ·exact k n hn
def Fine (l:List Nd):Prop:=l.length ≤ 1100000 ∧ Fits l ∧ Vals l
theorem Fine.drop {l:List Nd} (h:Fine l) (k:Nat):Fine (l.drop k):=⟨by rw [List.length_drop];have:=h.1;omega,h.2.1.drop k,h.2.2.drop k⟩
theorem Fine.take {l:List Nd} (h:Fine l) (k:Nat):Fine (l.take k):=⟨by rw [List.length_take];have:=h.1;omega,h.2.1.take k,h.2.2.take k⟩
theorem Fine.cons {n:Nd} {l:List Nd} (h:Fine (n :: l)):Fit n ∧ (∀ x ∈ n.ints,In x) ∧ Fine l :=
 ⟨h.2.1 n (by simp),h.2.2 n (by simp),by simpa using h.drop 1⟩
theorem of_facts {v:Int} (hv:In v):In (ofD v).1 ∧ In (ofD v).2 ∧ decB (ofD v) = true ∧ whlB (ofD v) = true ∧ whlV (ofD v) = v:=by
 obtain ⟨q,j,h,h1,h2,h3,h4⟩:=of_parts hv;have e:ofD v = (q,j):=by unfold ofD;rw [h]
 rw [e];refine ⟨h1,h2,h3,?_,?_⟩
 ·unfold whlB;rw [h4]
 ·unfold whlV;rw [h4]
theorem whlV_in (x:Int × Int):In (whlV x):=by
 unfold whlV wholeD;split
 ·rename_i h;exact h.2.2
 ·exact ⟨by decide,by decide⟩
theorem of_all {l:List Int} (h:∀ x ∈ l,In x):(l.map ofD).all whlB = true ∧ (l.map ofD).map whlV = l ∧ (l.map ofD).all decB = true:=by
 induction l with
 | nil => exact ⟨rfl,rfl,rfl⟩
 | cons x l ih =>
  obtain ⟨h1,h2,h3⟩:=ih fun y hy => h y (by simp [hy])
  obtain ⟨_,_,k1,k2,k3⟩:=of_facts (h x (by simp))
  refine ⟨?_,?_,?_⟩
  ·rw [List.map_cons,List.all_cons,k2,h1];rfl
  ·rw [List.map_cons,List.map_cons,k3,h2]
  ·rw [List.map_cons,List.all_cons,k1,h3];rfl
theorem kindI_is (xs:List Int):(kindI xs = 2 ∨ kindI xs = 1) ∧ (kindI xs = 1 → xs.all bitB = true):=by
 unfold kindI;split
 ·exact ⟨.inl rfl,fun h => by cases h⟩
 ·rename_i h
  refine ⟨.inr rfl,fun _ => ?_⟩
  cases hb:xs.all bitB with
  | true => rfl
  | false => exact absurd (.inr hb) h
theorem in4:In 4:=⟨by decide,by decide⟩
theorem least_facts {s:List Int} {l:List (Int × Int)} (hs:rightB s = true) (hc:cnt s = l.length) (hd:l.all decB = true) (hi:∀ x ∈ l,In x.1 ∧ In x.2) (hl:l.length ≤ 1100000) :
  okB (leastN s l) = true ∧ (leastN s l).shp = s ∧ (leastN s l).kind ≠ 3 ∧ (leastN s l).kind ≠ 5 ∧ Fit (leastN s l) ∧ (∀ x ∈ (leastN s l).ints,In x) ∧ leastN s (valsN (leastN s l)) = leastN s l ∧ In (leastN s l).kind:=by
 have hs16:s.length ≤ 1100000:=by have:=(right_iff.1 hs).1;omega
 cases hw:l.all whlB with
 | true =>
  have hL:leastN s l = ⟨kindI (l.map whlV),s,l.map whlV,[]⟩:=by unfold leastN;rw [if_pos hw]
  rw [hL];obtain ⟨hk,hk1⟩:=kindI_is (l.map whlV);have hin:∀ x ∈ l.map whlV,In x:=fun x hx => by
   obtain ⟨y,_,rfl⟩:=List.mem_map.1 hx;exact whlV_in y
  have hkin:In (kindI (l.map whlV)):=by rcases hk with h | h <;> rw [h] <;> exact ⟨by decide,by decide⟩
  obtain ⟨a1,a2,a3⟩:=of_all hin;refine ⟨?_,rfl,?_,?_,⟨hkin,hs16,?_,Nat.zero_le _,fun x hx => by cases hx⟩,hin,?_,hkin⟩
  ·unfold okB fillB
   dsimp only;rw [hs,hc]
   rcases hk with h | h
   ·simp [h]
   ·have:=hk1 h
    rw [this];simp [h]
  ·rcases hk with h | h <;> simp [h]
  ·rcases hk with h | h <;> simp [h]
  ·simpa using hl
  ·have e:valsN ⟨kindI (l.map whlV),s,l.map whlV,[]⟩ = (l.map whlV).map ofD:=by simp [valsN]
   rw [e];unfold leastN;rw [if_pos a1,a2]
 | false =>
  have hL:leastN s l = ⟨4,s,[],l⟩:=by unfold leastN;rw [hw,if_neg (by decide)]
  rw [hL];refine ⟨?_,rfl,by simp,by simp,⟨in4,hs16,Nat.zero_le _,hl,hi⟩,fun x hx => (by cases hx),?_,in4⟩
  ·unfold okB fillB
   dsimp only;rw [hs,hc,hd];simp
  ·have e:valsN ⟨4,s,[],l⟩ = l:=by simp [valsN]
   rw [e,hL]
theorem ok_right {n:Nd} (h:okB n = true):rightB n.shp = true ∧ fillB n (cnt n.shp) = true:=by
 simp only [okB,Bool.and_eq_true] at h;exact h
theorem vals_ok {n:Nd} (h:okB n = true) (hk:n.kind ≠ 3) (hf:Fit n) (hv:∀ x ∈ n.ints,In x) :
  (valsN n).all decB = true ∧ (∀ x ∈ valsN n,In x.1 ∧ In x.2) ∧ (valsN n).length ≤ 1100000 ∧ (n.kind ≠ 5 → cnt n.shp = (valsN n).length):=by
 obtain ⟨a1,a2,a3⟩:=of_all hv;have hlen:(valsN n).length = n.ints.length + n.decs.length:=by simp [valsN]
 have hfl:=(ok_right h).2;have hz:n.decs.all decB = true ∧ (n.ints.length = 0 ∨ n.decs.length = 0):=by
  unfold fillB at hfl
  by_cases h1:n.kind = 1
  ·simp [h1] at hfl;rw [hfl.1.2];exact ⟨rfl,.inr rfl⟩
  ·by_cases h2:n.kind = 2
   ·simp [h2] at hfl;rw [hfl.2];exact ⟨rfl,.inr rfl⟩
   ·by_cases h4:n.kind = 4
    ·simp [h4] at hfl;exact ⟨by simpa using hfl.2,.inl (by rw [hfl.1.1];rfl)⟩
    ·by_cases h5:n.kind = 5
     ·simp [h5] at hfl;rw [hfl.2];exact ⟨rfl,.inr rfl⟩
     ·simp [h1,h2,hk,h4,h5] at hfl
 refine ⟨?_,?_,?_,?_⟩
 ·unfold valsN;rw [List.all_append,a3,hz.1];rfl
 ·intro x hx
  rcases List.mem_append.1 hx with hx | hx
  ·obtain ⟨y,hy,rfl⟩:=List.mem_map.1 hx
   exact ⟨(of_facts (hv y hy)).1,(of_facts (hv y hy)).2.1⟩
  ·exact hf.2.2.2.2 x hx
 ·rw [hlen]
  have:=hf.2.2.1;have:=hf.2.2.2.1
  rcases hz.2 with h | h <;> omega
 ·intro h5
  rw [hlen]
  rcases ok_tot h with ⟨h0,_⟩ | ⟨_,h1,_⟩
  ·exact absurd h0 h5
  ·exact h1.symm
theorem take_app_part {l:List Nd} {a b:Nat}:l.take (a + b) = l.take a ++ (l.drop a).take b:=List.take_add
theorem parK_ok {f:List Nd → Option St} (hf:∀ l s,f l = some s → ∀ n ∈ l.take s.n,okB n = true):∀ {c:Nat} {l:List Nd} {t:St},parK f c l = some t → ∀ n ∈ l.take t.n,okB n = true
 | 0,l,t,h,n,hn => by rw [parK_zero] at h;cases h;simp [st0] at hn
 | c + 1,l,t,h,n,hn => by
  obtain ⟨a,b,ha,hb,rfl⟩:=parK_some h;rw [show (a.plus b).n = a.n + b.n from rfl,take_app_part] at hn
  rcases List.mem_append.1 hn with hn | hn
  ·exact parK_ok hf ha n hn
  ·exact hf _ _ hb n hn
theorem par_ok:∀ {d:Nat} {l:List Nd} {s:St},par d l = some s → ∀ n ∈ l.take s.n,okB n = true
 | 0,l,s,h,_,_ => by cases h
 | d + 1,l,s,h,k,hk => by
  obtain ⟨e,n,l',t,he,rfl,hn,ht,rfl⟩:=par_parts h;obtain rfl:d = e:=by omega
  simp only [top,List.take_succ_cons,List.mem_cons] at hk
  rcases hk with rfl | hk
  ·exact hn
  ·exact parK_ok (fun l s h => par_ok h) ht k hk
theorem par_leaf {d:Nat} {n:Nd} {l:List Nd} {s:St} (h:par d (n :: l) = some s) (hk:n.kind ≠ 5):s = top n st0:=by
 obtain ⟨e,n',l',t,he,hl,hn,ht,rfl⟩:=par_parts h
 cases hl
 have:kc n = 0:=by simp [kc,hk]
 rw [this,parK_zero] at ht
 cases ht
 rfl
theorem parK_flat {d:Nat}:∀ {c:Nat} {l:List Nd} {t:St},parK (par d) c l = some t → (∀ n ∈ l.take t.n,n.kind ≠ 5) → t.n = c
 | 0,l,t,h,_ => by rw [parK_zero] at h;cases h;rfl
 | c + 1,l,t,h,hk => by
  obtain ⟨a,b,ha,hb,rfl⟩:=parK_some h;rw [show (a.plus b).n = a.n + b.n from rfl,take_app_part] at hk;have h1:=parK_flat ha fun n hn => hk n (List.mem_append_left _ hn);obtain ⟨e,n',l',t,he,hl,hn,ht,rfl⟩:=par_parts hb;rw [hl] at hb hk;have h2:=par_leaf hb (hk n' (List.mem_append_right _ (by simp [top])))
  rw [h2];show a.n + 1 = c + 1;omega
theorem ints_one {n:Nd} (h:okB n = true) (hs:n.shp = []) (hk:n.kind = 3):n.ints.length = 1 ∧ n.decs = [] ∧ ∀ x ∈ n.ints,signB x = true:=by
 have h2:=(ok_right h).2;rw [hs] at h2;unfold fillB at h2;have hc:cnt [] = 1:=by decide
 simp [hk,hc] at h2;exact ⟨h2.1.1,h2.1.2,h2.2⟩
theorem nil_of_zero {α:Type} {l:List α} (h:¬ 0 < l.length):l = []:=List.eq_nil_of_length_eq_zero (by omega)
theorem not_deep {n:Nd} (h:deepB n = false):n.kind ≠ 5 ∧ n.shp = []:=by
 simp only [deepB,Bool.or_eq_false_iff,decide_eq_false_iff_not,beq_eq_false_iff_ne] at h;exact ⟨h.1,nil_of_zero h.2⟩
theorem any_false {α:Type} {p:α → Bool} {l:List α} (h:l.any p = false):∀ x ∈ l,p x = false:=fun x hx => by
 rw [List.any_eq_false] at h
 simpa using h x hx
theorem ints_len {ks:List Nd} (h:∀ n ∈ ks,okB n = true ∧ n.shp = [] ∧ n.kind = 3):(intsK ks).length = ks.length ∧ (intsK ks).all signB = true:=by
 induction ks with
 | nil => exact ⟨rfl,rfl⟩
 | cons n ks ih =>
  obtain ⟨h1,h2⟩:=ih fun m hm => h m (by simp [hm])
  obtain ⟨k1,k2,k3⟩:=h n (by simp)
  obtain ⟨j1,j2,j3⟩:=ints_one k1 k2 k3;refine ⟨?_,?_⟩
  ·simp only [intsK,List.flatMap_cons,List.length_append,List.length_cons] at h1 ⊢
   omega
  ·simp only [intsK,List.flatMap_cons,List.all_append] at h2 ⊢
   rw [h2]
   simpa using j3
theorem vals_len {ks:List Nd} (h:∀ n ∈ ks,okB n = true ∧ n.shp = [] ∧ n.kind ≠ 3 ∧ n.kind ≠ 5 ∧ Fit n ∧ ∀ x ∈ n.ints,In x) :
  (valsK ks).length = ks.length ∧ (valsK ks).all decB = true ∧ ∀ x ∈ valsK ks,In x.1 ∧ In x.2:=by
 induction ks with
 | nil => exact ⟨rfl,rfl,fun x hx => by cases hx⟩
 | cons n ks ih =>
  obtain ⟨h1,h2,h3⟩:=ih fun m hm => h m (by simp [hm])
  obtain ⟨k1,k2,k3,k4,k5,k6⟩:=h n (by simp)
  obtain ⟨j1,j2,j3,j4⟩:=vals_ok k1 k3 k5 k6;have hc:=j4 k4;rw [k2,show cnt [] = 1 by decide] at hc
  refine ⟨?_,?_,?_⟩
  ·simp only [valsK,List.flatMap_cons,List.length_append,List.length_cons] at h1 ⊢
   omega
  ·simp only [valsK,List.flatMap_cons,List.all_append] at h2 ⊢
   rw [h2,j1];rfl
  ·intro x hx
   simp only [valsK,List.flatMap_cons,List.mem_append] at hx
   rcases hx with hx | hx
   ·exact j2 x hx
   ·exact h3 x hx
def OkOne (n m:Nd):Prop:=okB m = true ∧ m.shp = n.shp ∧ m.kind ≠ 5 ∧ Fit m ∧ (∀ x ∈ m.ints,In x) ∧ foldO m [] = some m
theorem least_one {n:Nd} {l:List (Int × Int)} (hs:rightB n.shp = true) (hc:cnt n.shp = l.length) (hd:l.all decB = true) (hi:∀ x ∈ l,In x.1 ∧ In x.2) (hl:l.length ≤ 1100000):OkOne n (leastN n.shp l):=by
 obtain ⟨h1,h2,h3,h4,h5,h6,h7,_⟩:=least_facts hs hc hd hi hl;refine ⟨h1,h2,h4,h5,h6,?_⟩;unfold foldO;rw [if_neg h3,if_neg h4,h2,h7]
theorem in_sign {x:Int} (h:signB x = true):In x:=by
 simp only [signB,Bool.and_eq_true,decide_eq_true_eq] at h;exact ⟨by omega,by omega⟩
theorem in3:In 3:=⟨by decide,by decide⟩
theorem join_one {d:Nat} {n m:Nd} {ks:List Nd} {u:St} (hn:okB n = true) (hk5:n.kind = 5) (hp:parK (par d) (kc n) ks = some u) (hu:u.n = ks.length) (hf:Fine ks) (hj:joinO n.shp ks = some m):OkOne n m:=by
 obtain ⟨hs,_⟩:=ok_right hn;have hkc:kc n = cnt n.shp:=by simp [kc,hk5]
 unfold joinO at hj;split at hj
 ·cases hj
 ·rename_i hc
  have hc':=Bool.eq_false_iff.2 hc;rw [Bool.or_eq_false_iff] at hc';have hdeep:=fun n hn => not_deep (any_false hc'.1 n hn);have htk:ks.take u.n = ks:=by rw [hu];exact List.take_length
  have hlen:=parK_flat hp (by rw [htk];exact fun n hn => (hdeep n hn).1)
  have hall:=parK_ok (fun l s h => par_ok h) hp;rw [htk] at hall;rw [hlen,hkc] at hu;split at hj
  ·rename_i hsg
   cases hj
   have hnum:ks.any numN = false:=by
    have:=hc'.2;rw [hsg] at this
    simpa using this
   obtain ⟨h1,h2⟩:=ints_len (ks:=ks) fun k hk => ⟨hall k hk,(hdeep k hk).2,by
    have:=any_false hnum k hk
    simpa [numN,signN] using this⟩
   refine ⟨?_,rfl,by simp,⟨in3,by have:=(right_iff.1 hs).1;show n.shp.length ≤ 1100000;omega,by show (intsK ks).length ≤ 1100000;have:=hf.1;omega,Nat.zero_le _,fun x hx => by cases hx⟩,fun x hx => in_sign (List.all_eq_true.1 h2 x hx),?_⟩
   ·unfold okB fillB
    dsimp only;rw [hs,hu,h1,h2];simp
   ·unfold foldO
    rw [if_pos rfl]
  ·rename_i hsg
   cases hj
   have hsg':=Bool.eq_false_iff.2 hsg
   obtain ⟨h1,h2,h3⟩:=vals_len (ks:=ks) fun k hk => ⟨hall k hk,(hdeep k hk).2,by
    have:=any_false hsg' k hk
    simpa [signN] using this,(hdeep k hk).1,hf.2.1 k hk,hf.2.2 k hk⟩
   exact least_one hs (by rw [hu,h1]) h2 h3 (by rw [h1];exact hf.1)
theorem fold_one {d:Nat} {n m:Nd} {ks:List Nd} {u:St} (hn:okB n = true) (hfit:Fit n) (hin:∀ x ∈ n.ints,In x) (hp:parK (par d) (kc n) ks = some u) (hu:u.n = ks.length) (hf:Fine ks) (hj:foldO n ks = some m):OkOne n m:=by
 unfold foldO at hj;split at hj
 ·rename_i h3
  cases hj
  refine ⟨hn,rfl,by omega,hfit,hin,?_⟩
  unfold foldO;rw [if_pos h3]
 ·split at hj
  ·rename_i h3 h5
   exact join_one hn h5 hp hu hf hj
  ·rename_i h3 h5
   cases hj
   obtain ⟨j1,j2,j3,j4⟩:=vals_ok hn h3 hfit hin;exact least_one (ok_right hn).1 (j4 h5) j1 j2 j3
def Good (p:List Nd → Option St) (f:List Nd → List Nd) (F:List Nd) (s:St):Prop :=
 ∃ u,p F = some u ∧ u.n = F.length ∧ u.n ≤ s.n ∧ u.i ≤ s.i ∧ u.d ≤ s.d ∧ Fits F ∧ Vals F ∧ f F = F
theorem app_take {X Y:List Nd} {k:Nat} (h:k = X.length):(X ++ Y).take k = X.take k ∧ (X ++ Y).drop k = Y:=by
 subst h;exact ⟨by rw [List.take_append_of_le_length (Nat.le_refl _)],by simp⟩
theorem catF_good {d:Nat} (hf:∀ l s,par d l = some s → Fine l → Good (par d) (formF d) (formF d l) s) :
  ∀ {c:Nat} {l:List Nd} {t:St},parK (par d) c l = some t → Fine l → Good (parK (par d) c) (catF (par d) (formF d) c) (catF (par d) (formF d) c l) t
 | 0,l,t,h,_ => by
  rw [parK_zero] at h
  cases h
  exact ⟨st0,rfl,rfl,Nat.le_refl _,Nat.le_refl _,Nat.le_refl _,(fun n hn => by cases hn),(fun n hn => by cases hn),rfl⟩
 | c + 1,l,t,h,hl => by
  obtain ⟨a,b,ha,hb,rfl⟩:=parK_some h;obtain ⟨u,hu,hul,h1,h2,h3,h4,h5,h6⟩:=catF_good hf ha hl;obtain ⟨v,hv,hvl,k1,k2,k3,k4,k5,k6⟩:=hf _ _ hb (hl.drop _);rw [catF_succ ha];generalize catF (par d) (formF d) c l = X at *;generalize formF d (l.drop a.n) = Y at *;obtain ⟨e1,e2⟩:=app_take (Y:=Y) hul;have hp:=parK_local (fun l s h => par_local h) hu (X ++ Y) e1;refine ⟨u.plus v,parK_mk hp (by rw [e2];exact hv),?_,?_,?_,?_,h4.app k4,h5.app k5,?_⟩
  ·simp only [St.plus,List.length_append];omega
  ·simp only [St.plus];omega
  ·simp only [St.plus];omega
  ·simp only [St.plus];omega
  ·rw [catF_succ hp,e2,k6,catF_local (fun l s h => par_local h) (fun l s h => formF_local h) hu (X ++ Y) e1,h6]
theorem formF_good:∀ {d:Nat} {l:List Nd} {s:St},par d l = some s → Fine l → Good (par d) (formF d) (formF d l) s
 | 0,l,s,h,_ => by cases h
 | d + 1,l,s,h,hl => by
  obtain ⟨e,n,l',t,he,rfl,hn,ht,rfl⟩:=par_parts h;obtain rfl:d = e:=by omega
  obtain ⟨hfit,hin,hl'⟩:=hl.cons;have htl:=parK_len (fun l s h => (par_len h).2.1) ht;obtain ⟨u,hu,hul,h1,h2,h3,h4,h5,h6⟩:=catF_good (fun l s h hl => formF_good h hl) ht hl';rw [formF_cons];generalize hks:catF (par d) (formF d) (kc n) l' = ks at *;have hkf:Fine ks:=⟨by have:=hl'.1;omega,h4,h5⟩
  cases hj:foldO n ks with
  | none =>
   have hcl:clos n ks = n :: ks:=by unfold clos;rw [hj]
   rw [hcl];refine ⟨top n u,par_mk hn hu,?_,?_,?_,?_,?_,?_,?_⟩
   ·simp only [top,List.length_cons];omega
   ·simp only [top];omega
   ·simp only [top];omega
   ·simp only [top];omega
   ·intro m hm
    rcases List.mem_cons.1 hm with rfl | hm
    ·exact hfit
    ·exact h4 m hm
   ·intro m hm
    rcases List.mem_cons.1 hm with rfl | hm
    ·exact hin
    ·exact h5 m hm
   ·rw [formF_cons,h6,hcl]
  | some m =>
   obtain ⟨k1,k2,k3,k4,k5,k6⟩:=fold_one hn hfit hin hu hul hkf hj;have hcl:clos n ks = [m]:=by unfold clos;rw [hj]
   have hkc:kc m = 0:=by simp [kc,k3]
   rw [hcl];refine ⟨top m st0,par_mk k1 (by rw [hkc];rfl),rfl,?_,?_,?_,?_,?_,?_⟩
   ·simp only [top,st0];omega
   ·simp only [top,st0,k2];omega
   ·simp only [top,st0];omega
   ·intro x hx;rw [List.mem_singleton.1 hx];exact k4
   ·intro x hx;rw [List.mem_singleton.1 hx];exact k5
   ·rw [formF_cons,hkc,catF_zero]
    unfold clos;rw [k6]
theorem form_good {l:List Nd} {s:St} (h:whlD l = some s) (hl:Fine l) :
  ∃ u,whlD (formA l) = some u ∧ (formA l).length ≤ l.length ∧ u.i ≤ s.i ∧ u.d ≤ s.d ∧ Fine (formA l) ∧ formA (formA l) = formA l ∧ par s.d (formA l) = some u:=by
 obtain ⟨hp,hi,hn⟩:=whl_some h;have hd:=par_len hp;have hp':=par_depth hp s.d (Nat.le_refl _);obtain ⟨u,hu,hul,h1,h2,h3,h4,h5,h6⟩:=formF_good hp hl;obtain ⟨v,hv,hvl,_⟩:=formF_good hp' hl;have e:formF s.d l = formF 16 l:=formF_depth hp s.d (Nat.le_refl _);rw [e] at hv hvl;have hvu:v = u:=by
  have:=par_depth hv 16 (by have:=par_len hv;omega)
  rw [hu] at this
  cases this
  rfl
 subst hvu;exact ⟨v,whl_mk hu (by omega) hul,by show (formF 16 l).length ≤ _;omega,h2,h3,⟨by show (formF 16 l).length ≤ _;have:=hl.1;omega,h4,h5⟩,h6,hv⟩
theorem form_right {l:List Nd} (h:rightA l = true) (hl:Fine l):rightA (formA l) = true ∧ (formA l).length ≤ l.length ∧ (ws (formA l)).i ≤ (ws l).i ∧ (ws (formA l)).d ≤ (ws l).d ∧ Fine (formA l) ∧ formA (formA l) = formA l ∧ formA l ≠ []:=by
 obtain ⟨s,hs⟩:=right_some h;obtain ⟨u,hu,h1,h2,h3,h4,h5,_⟩:=form_good hs hl;have hr:rightA (formA l) = true:=by unfold rightA;rw [hu];rfl
 rw [ws_some hs,ws_some hu];exact ⟨hr,h1,h2,h3,h4,h5,(right_kidsy hr).1⟩
def numO (s:List Int) (l:List (Int × Int)):Option Nd:=if rightB s = true ∧ cnt s = l.length ∧ l.all decB = true then some (leastN s l) else none
theorem catF_cons {p:List Nd → Option St} {f:List Nd → List Nd}:∀ {c:Nat} {l:List Nd} {a b:St},p l = some a → parK p c (l.drop a.n) = some b → catF p f (c + 1) l = f l ++ catF p f c (l.drop a.n)
 | 0,l,a,b,ha,hb => by
  rw [catF_succ (parK_zero p l)];simp [catF_zero,st0]
 | c + 1,l,a,b,ha,hb => by
  obtain ⟨x,y,hx,hy,rfl⟩:=parK_some hb;rw [catF_succ (parK_cons_mk ha hx),catF_cons ha hx,catF_succ hx,List.append_assoc,show (a.plus x).n = a.n + x.n from rfl,List.drop_drop]
theorem flat_par:∀ {ks:List (List Nd)},(∀ k ∈ ks,∃ s,whlD k = some s ∧ s.d ≤ 15) →
  ∃ t,parK (par 15) ks.length (flatK ks) = some t ∧ t.n = (flatK ks).length ∧ t.i = isum ks ∧ catF (par 15) (formF 15) ks.length (flatK ks) = flatK (ks.map formA)
 | [],_ => ⟨st0,rfl,rfl,rfl,rfl⟩
 | k :: ks,h => by
  obtain ⟨s,hs,hd⟩:=h k (by simp)
  obtain ⟨t,ht,hn,hi,hc⟩:=flat_par (ks:=ks) fun q hq => h q (by simp [hq])
  obtain ⟨hp,hsi,hsn⟩:=whl_some hs;have h15:=par_depth hp 15 hd;have hap:=par_app h15 (flatK ks);have hdr:(k ++ flatK ks).drop s.n = flatK ks:=by rw [hsn];simp
  have ht':parK (par 15) ks.length ((k ++ flatK ks).drop s.n) = some t:=by rw [hdr];exact ht
  refine ⟨s.plus t,parK_cons_mk hap ht',?_,?_,?_⟩
  ·simp only [St.plus,flatK,List.length_append];omega
  ·simp only [St.plus,isum,ws_some hs];omega
  ·rw [List.length_cons,show flatK (k :: ks) = k ++ flatK ks from rfl,catF_cons hap ht',hdr,hc,formF_app h15,List.map_cons]
   show formF 15 k ++ _ = formA k ++ _;rw [show formA k = formF 15 k from formF_depth h15 16 (by omega)]
theorem hold_facts:∀ {m:Nat} {ks:List (List Nd)},holdK m ks = true → m ≤ 1048576 → (∀ k ∈ ks,∃ s,whlD k = some s ∧ s.d ≤ 15) ∧ m + isum ks ≤ 1048576
 | m,[],_,hm => ⟨(fun k hk => by cases hk),by simpa [isum] using hm⟩
 | m,k :: ks,h,hm => by
  simp only [holdK,holdB1,Bool.and_eq_true,decide_eq_true_eq] at h;obtain ⟨⟨hr,hd,hi⟩,hk⟩:=h;obtain ⟨h1,h2⟩:=hold_facts hk hi;obtain ⟨s,hs⟩:=right_some hr;rw [ws_some hs] at hd hi h2;refine ⟨fun q hq => ?_,by simp only [isum,ws_some hs];omega⟩
  rcases List.mem_cons.1 hq with rfl | hq
  ·exact ⟨s,hs,by omega⟩
  ·exact h1 q hq
theorem nest_facts {sh:List Int} {ks:List (List Nd)} (h:nestB sh ks = true):okB (nest5 sh) = true ∧ cnt sh = ks.length ∧ holdK ks.length ks = true:=by
 simp only [nestB,Bool.and_eq_true,decide_eq_true_eq] at h;obtain ⟨h1,h2,h3⟩:=h;have e:itm (nest5 sh) = cnt sh:=by unfold itm;rw [if_pos h1];rfl
 rw [e] at h2 h3;exact ⟨h1,h2.symm,by rw [h2];exact h3⟩
theorem nest_form {sh:List Int} {ks:List (List Nd)} (h:nestB sh ks = true):rightA (nest5 sh :: flatK ks) = true ∧ formA (nest5 sh :: flatK ks) = clos (nest5 sh) (flatK (ks.map formA)) ∧ (ws (nest5 sh :: flatK ks)).i = cnt sh + isum ks:=by
 obtain ⟨h1,h2,h3⟩:=nest_facts h;have hc:=cnt_le1 sh;obtain ⟨h4,h5⟩:=hold_facts h3 (by omega)
 obtain ⟨t,ht,hn,hi,hcat⟩:=flat_par h4;have hkc:kc (nest5 sh) = ks.length:=by unfold kc nest5;simp [h2]
 have hp:par 16 (nest5 sh :: flatK ks) = some (top (nest5 sh) t):=par_mk h1 (by rw [hkc];exact ht)
 have hw:whlD (nest5 sh :: flatK ks) = some (top (nest5 sh) t):=whl_mk hp (by show t.i + cnt sh ≤ 1048576;omega) (by simp only [top,List.length_cons];omega)
 refine ⟨by unfold rightA;rw [hw];rfl,?_,by rw [ws_some hw];show t.i + cnt sh = _;omega⟩
 show formF 16 _ = _;rw [formF_cons,hkc,hcat]
theorem right_form {l:List Nd} (hr:rightA l = true) (hf:Fine l):∃ n l' ks,l = n :: l' ∧ okB n = true ∧ formA l = clos n ks ∧ (∀ m,foldO n ks = some m → OkOne n m) ∧ (n.kind ≠ 5 → l' = [] ∧ ks = []):=by
 obtain ⟨s,hs⟩:=right_some hr;obtain ⟨n,l',t,rfl,hok,ht,rfl,hn,hi⟩:=right_parts hs;obtain ⟨hfit,hin,hl'⟩:=hf.cons;obtain ⟨u,hu,hul,h1,h2,h3,h4,h5,h6⟩:=catF_good (fun l s h hl => formF_good h hl) ht hl';refine ⟨n,l',catF (par 15) (formF 15) (kc n) l',rfl,hok,rfl,fun m hm => fold_one hok hfit hin hu hul ⟨by have:=hl'.1;omega,h4,h5⟩ hm,fun hk => ?_⟩
 have hkc:kc n = 0:=by simp [kc,hk]
 rw [hkc,parK_zero] at ht
 cases ht
 refine ⟨List.eq_nil_of_length_eq_zero (by simpa [st0] using hn.symm),by rw [hkc];rfl⟩
theorem leaf_form {n:Nd} (hk:n.kind ≠ 5) (ks:List Nd):clos n ks = [if n.kind = 3 then n else leastN n.shp (valsN n)]:=by
 unfold clos foldO
 by_cases h3:n.kind = 3
 ·rw [if_pos h3,if_pos h3]
 ·rw [if_neg h3,if_neg hk,if_neg h3]
open Go.RowKit Go.Lib
theorem run_append_empty (t ty e:TypeId) (i:TypeInfo) (ht:Tryz.prog.underlying t = some (.slice e)) (hi:Tryz.prog.info? e = some i) (w:World) (B size n:Nat) (v:Value) (xs:List Value)
  (hv:w.ownsRow B e size v n xs) (A:Option Addr) (c:Nat) :
  (Builtin.append_ #[t,t] ty #[v,.slice A 0 c]).run Tryz.prog w = .ok v w:=by
 rcases hv.2 with ⟨rfl,rfl⟩ | ⟨g,cap,cur,rfl,_,_,hnc,_⟩
 ·cases A <;> simp [Builtin.append_,run_underlying ht,sizeOf,typeInfo,hi,Builtin.lenOf,Builtin.firstCells,loadCells,loadCellsFrom,storeCells]
 ·cases A <;> simp [Builtin.append_,run_underlying ht,sizeOf,typeInfo,hi,Builtin.lenOf,Builtin.firstCells,loadCells,loadCellsFrom,storeCells,hnc]
def Apart (v v':Value) (w w':World):Prop:=(∀ b,b < w.heap.size → v.ownBlock ≠ some b → w'.heap[b]? = w.heap[b]?) ∧ (v'.ownBlock = v.ownBlock ∨ v'.ownBlock = some w.heap.size)
theorem run_append_any (w:World) (B:Nat) (t ty e:TypeId) (i:TypeInfo) (z:Value) (size bytes:Nat) (ht:Tryz.prog.underlying t = some (.slice e)) (hi:Tryz.prog.info? e = some i) (hz:i.zero = some z)
  (hsize:i.size = size) (hby:i.bytes = bytes) (hzs:z.cells.size = size) (hsz:0 < size) (v:Value) (n:Nat) (xs:List Value) (hown:w.ownsRow B e size v n xs)
  (A:Option Addr) (m c:Nat) (news:List Value) (hl:news.length = m * size) (hsrc:Src w A news) (h1:Ones news) (hb:(n + m) * bytes ≤ 140737488355328) (hb2:n + m ≤ 1000000000) (hB:B ≤ w.heap.size) :
  ∃ v' w',(Builtin.append_ #[t,t] ty #[v,.slice A m c]).run Tryz.prog w = .ok v' w' ∧ w'.ownsRow B e size v' (n + m) (xs ++ news) ∧ Below B w w' ∧ Apart v v' w w':=by
 by_cases h0:m = 0
 ·subst h0
  have hn0:news = []:=List.eq_nil_of_length_eq_zero (by omega)
  subst hn0;exact ⟨v,w,run_append_empty t ty e i ht hi w B size n v xs hown A c,by simpa using hown,Below.refl _ _,(fun _ _ _ => rfl),.inl rfl⟩
 ·obtain ⟨ad,rfl,hc⟩:=hsrc (by rw [hl];exact Nat.mul_pos (by omega) hsz)
  obtain ⟨v',w',hr,h2,h3,_,h5⟩:=run_append_own_at (P:=Tryz.prog) w B t ty e i z size bytes ht hi hz hsize hby hzs hsz v n xs hown ad m c news hl hc h1 (by unfold maxLen;omega) hb hB
  exact ⟨v',w',hr,h2,Below.grown (Below.refl _ _) h3 hB (fun g hg => (hown.lt g hg).1),(fun b hb hne => h3.block b hb (fun e => hne e.symm)),h5⟩
def OwnI (B:Nat) (v:Value) (xs:List Int) (w:World):Prop:=w.ownsRow B 3 1 v xs.length (ivs xs)
def OwnD (B:Nat) (v:Value) (ds:List (Int × Int)) (w:World):Prop:=w.ownsRow B 41 2 v ds.length (dvs ds)
theorem ownI_nil (B:Nat) (w:World):OwnI B (.slice none 0 0) [] w:=World.ownsRow_nil _ _ _ _
theorem ownD_nil (B:Nat) (w:World):OwnD B (.slice none 0 0) [] w:=World.ownsRow_nil _ _ _ _
theorem OwnI.grow {B:Nat} {v:Value} {xs:List Int} {w w':World} (h:OwnI B v xs w) (hg:Grow w w'):OwnI B v xs w':=ownsRow_grow h hg
theorem OwnD.grow {B:Nat} {v:Value} {ds:List (Int × Int)} {w w':World} (h:OwnD B v ds w) (hg:Grow w w'):OwnD B v ds w':=ownsRow_grow h hg
theorem ivs_app (a b:List Int):ivs (a ++ b) = ivs a ++ ivs b:=by simp [ivs]
theorem dvs_app (a b:List (Int × Int)):dvs (a ++ b) = dvs a ++ dvs b:=by simp [dvs]
theorem own_at {w:World} {B size n:Nat} {e:TypeId} {v:Value} {xs:List Value} (h:w.ownsRow B e size v n xs) :
  ∃ A c,v = .slice A n c ∧ n ≤ c ∧ (A = none → c = 0) ∧ (0 < n → ∃ g,A = some ⟨g,0,none⟩ ∧ B ≤ g ∧ g < w.heap.size ∧ ∀ j u,xs[j]? = some u → w.cell? ⟨g,j,none⟩ = some u):=by
 rcases h.2 with ⟨rfl,rfl⟩ | ⟨g,cap,cur,rfl,hbg,hgg,hnc,hcm,hsz,htake⟩
 ·exact ⟨none,0,rfl,Nat.le_refl _,fun _ => rfl,fun h => absurd h (Nat.lt_irrefl _)⟩
 ·refine ⟨some ⟨g,0,none⟩,cap,rfl,hnc,(fun e => by cases e),fun _ => ⟨g,rfl,hbg,heap_lt hgg,fun j u hj => ?_⟩⟩
  have hjl:j < n * size:=by
   have:=(List.getElem?_eq_some_iff.1 hj).1;rw [h.1] at this;exact this
  rw [cell_of_row w g j cur _ (0,0) hgg,← hj,← htake,List.getElem?_take,if_pos hjl,Array.getElem?_toList]
theorem OwnI.new {B:Nat} {v:Value} {xs:List Int} {w:World} (h:OwnI B v xs w):∃ A c,v = .slice A xs.length c ∧ xs.length ≤ c ∧ NewN B A xs w:=by
 obtain ⟨A,c,rfl,hc,_,hg⟩:=own_at h;refine ⟨A,c,rfl,hc,fun hp => ?_⟩;obtain ⟨g,rfl,h1,h2,h3⟩:=hg hp;refine ⟨g,0,rfl,⟨h1,h2⟩,fun i hi => ?_⟩;rw [Nat.zero_add];exact h3 i _ (by simp [ivs,hi])
theorem OwnD.new {B:Nat} {v:Value} {ds:List (Int × Int)} {w:World} (h:OwnD B v ds w):∃ A c,v = .slice A ds.length c ∧ ds.length ≤ c ∧ NewD B A ds w:=by
 obtain ⟨A,c,rfl,hc,_,hg⟩:=own_at h;refine ⟨A,c,rfl,hc,fun hp => ?_⟩;obtain ⟨g,rfl,h1,h2,h3⟩:=hg hp;refine ⟨g,0,rfl,⟨h1,h2⟩,fun i hi => ?_⟩;obtain ⟨k1,k2⟩:=dvs_get ds i hi;rw [Nat.zero_add];exact ⟨h3 _ _ k1,h3 _ _ k2⟩
theorem NewN.nums {B:Nat} {A:Option Addr} {xs:List Int} {w:World} (h:NewN B A xs w):Nums .i64 w w.heap.size A xs:=NumsT.nums h
theorem NewD.decs {B:Nat} {A:Option Addr} {ds:List (Int × Int)} {w:World} (h:NewD B A ds w):Decs w w.heap.size A ds:=DecsT.decs h
theorem wp_more_ints {o:Oper} {a:Act} {w:World} {K:Act → World → Prop} {Q:Exit → Act → World → Prop} (s x:Operand)
  (ho:o.op = .call { callee:=.builtin .append,args:=#[s,x],argTypes:=#[31,31] }) (B:Nat) (v:Value) (xs:List Int) (A:Option Addr) (m c:Nat) (ys:List Int)
  (hs:a.eval s = v) (hown:OwnI B v xs w) (hx:a.eval x = .slice A m c) (hm:ys.length = m) (hys:Nums .i64 w w.heap.size A ys) (hb:xs.length + m ≤ 1000000000) (hB:B ≤ w.heap.size)
  (h:∀ v' w',Hid (OwnI B v' (xs ++ ys) w') → Hid (Below B w w') → Hid (Apart v v' w w') → K (a.put o.dst v') w'):o.wp Tryz.prog a w K Q:=by
 obtain ⟨i0,hi,hz0,hz1,hz2⟩:=info_of info_int;subst hm;obtain ⟨v',w',hr,h2,h3,h4⟩:=run_append_any w B 31 o.type 3 i0 _ 1 8 Tryz.underlying31 hi hz0 hz1 hz2 rfl (by decide) v xs.length (ivs xs) hown A ys.length c (ivs ys) (ivs_len ys) (src_nums hys) (ivs_one ys) (by omega) hb hB
 unfold Oper.wp;simp [execOp,ho,resolve,invoke,builtin,hs,hx,hr,Result.andThen];exact h v' w' (Hh (by rw [← ivs_app] at h2;rw [← List.length_append] at h2;exact h2)) (Hh h3) (Hh h4)
theorem wp_more_decs {o:Oper} {a:Act} {w:World} {K:Act → World → Prop} {Q:Exit → Act → World → Prop} (s x:Operand)
  (ho:o.op = .call { callee:=.builtin .append,args:=#[s,x],argTypes:=#[32,32] }) (B:Nat) (v:Value) (xs:List (Int × Int)) (A:Option Addr) (m c:Nat) (ys:List (Int × Int))
  (hs:a.eval s = v) (hown:OwnD B v xs w) (hx:a.eval x = .slice A m c) (hm:ys.length = m) (hys:Decs w w.heap.size A ys) (hb:xs.length + m ≤ 1000000000) (hB:B ≤ w.heap.size)
  (h:∀ v' w',Hid (OwnD B v' (xs ++ ys) w') → Hid (Below B w w') → Hid (Apart v v' w w') → K (a.put o.dst v') w'):o.wp Tryz.prog a w K Q:=by
 obtain ⟨i0,hi,hz0,hz1,hz2⟩:=info_of info_dec;subst hm;obtain ⟨v',w',hr,h2,h3,h4⟩:=run_append_any w B 32 o.type 41 i0 _ 2 16 Tryz.underlying32 hi hz0 hz1 hz2 rfl (by decide) v xs.length (dvs xs) hown A ys.length c (dvs ys) (dvs_len ys) (src_decs hys) (dvs_one ys) (by omega) hb hB
 unfold Oper.wp;simp [execOp,ho,resolve,invoke,builtin,hs,hx,hr,Result.andThen];exact h v' w' (Hh (by rw [← dvs_app] at h2;rw [← List.length_append] at h2;exact h2)) (Hh h3) (Hh h4)
theorem wpList_more_ints {ops:Array Oper} {rest:List Oper} {o:Oper} {a:Act} {w:World} {Q:Exit → Act → World → Prop} (hgd:o.guard = none) (s x:Operand)
  (ho:o.op = .call { callee:=.builtin .append,args:=#[s,x],argTypes:=#[31,31] }) (B:Nat) (v:Value) (xs:List Int) (A:Option Addr) (m c:Nat) (ys:List Int)
  (hs:a.eval s = v) (hown:OwnI B v xs w) (hx:a.eval x = .slice A m c) (hm:ys.length = m) (hys:Nums .i64 w w.heap.size A ys) (hb:xs.length + m ≤ 1000000000) (hB:B ≤ w.heap.size)
  (h:∀ v' w',Hid (OwnI B v' (xs ++ ys) w') → Hid (Below B w w') → Hid (Apart v v' w w') → wpList Tryz.prog ops Q rest (a.put o.dst v') w'):wpList Tryz.prog ops Q (o :: rest) a w :=
 wpList_plain hgd fun K hK => wp_more_ints s x ho B v xs A m c ys hs hown hx hm hys hb hB fun v' w' h1 h2 h3 => hK _ _ (h v' w' h1 h2 h3)
theorem wpList_more_decs {ops:Array Oper} {rest:List Oper} {o:Oper} {a:Act} {w:World} {Q:Exit → Act → World → Prop} (hgd:o.guard = none) (s x:Operand)
  (ho:o.op = .call { callee:=.builtin .append,args:=#[s,x],argTypes:=#[32,32] }) (B:Nat) (v:Value) (xs:List (Int × Int)) (A:Option Addr) (m c:Nat) (ys:List (Int × Int))
  (hs:a.eval s = v) (hown:OwnD B v xs w) (hx:a.eval x = .slice A m c) (hm:ys.length = m) (hys:Decs w w.heap.size A ys) (hb:xs.length + m ≤ 1000000000) (hB:B ≤ w.heap.size)
  (h:∀ v' w',Hid (OwnD B v' (xs ++ ys) w') → Hid (Below B w w') → Hid (Apart v v' w w') → wpList Tryz.prog ops Q rest (a.put o.dst v') w'):wpList Tryz.prog ops Q (o :: rest) a w :=
 wpList_plain hgd fun K hK => wp_more_decs s x ho B v xs A m c ys hs hown hx hm hys hb hB fun v' w' h1 h2 h3 => hK _ _ (h v' w' h1 h2 h3)
open Go.RowKit Go.Lib
theorem beyond1_any (x:Int) (w:World):Calls Tryz.prog 119 #[.int .i64 x] w (Gives (.bool (!bitB x)) w):=by
 by_cases h0:x = 0
 ·subst h0
  have e:bitB 0 = true:=rfl;rw [e]
  go_enter Tryz.func119,Tryz.ntmps119
  go_wp2;go_ret;exact ⟨rfl,rfl⟩
 ·by_cases h1:x = 1
  ·subst h1
   have e:bitB 1 = true:=rfl;rw [e]
   go_enter Tryz.func119,Tryz.ntmps119
   go_wp2;go_ret;exact ⟨rfl,rfl⟩
  ·have e:bitB x = false:=by simp [bitB,h0,h1]
   have e0:(x != 0) = true:=by simpa using h0
   have e1:(x != 1) = true:=by simpa using h1
   rw [e];clear e h0 h1
   go_enter Tryz.func119,Tryz.ntmps119
   go_wp2;go_ret;exact ⟨rfl,rfl⟩
theorem indexb_any (A:Option Addr) (n c:Nat) (xs:List Int) (w:World) (hn:xs.length = n) (hm:n ≤ 9223372036854775807) (hr:Nums .i64 w w.heap.size A xs) :
  Calls Tryz.prog 117 #[.slice A n c,.func (.func 119) #[] #[]] w (Finds bitB xs w):=by
 have HR:=Hh hr;have HN:=Hh hn;clear hr hn
 go_enter Tryz.func117,Tryz.ntmps117
 go_wp2
 go_loopg [8] n (fun g s8 wr => ∃ k:Nat,k ≤ n ∧ g = n - k ∧ s8 = .int .i64 k ∧ Hid ((xs.drop k).all bitB = xs.all bitB) ∧ w = wr)
 case atStart => exact ⟨0,Nat.zero_le _,rfl,rfl,Hh rfl,rfl⟩
 case round =>
  obtain ⟨k,hk,rfl,rfl,HA,rfl⟩:=hrel
  by_cases hlt:k < n
  ·have hkl:k < xs.length:=by rw [HN.out];exact hlt
   obtain ⟨b,off,rfl,hb,hcl⟩:=HR.out (by omega)
   have hc:=hcl k hkl;have HT:=Hh (fun h => all_drop (p:=bitB) hkl h);have HF:=Hh (fun h => all_fails (p:=bitB) hkl h);clear hcl hkl;generalize xs.getD k 0 = x at hc HT HF
   cases hx:bitB x with
   | true =>
    have HT':=Hh (HT.out hx);have hx':(!bitB x) = false:=by rw [hx];rfl
    have HB:=Hh (beyond1_any x w);rw [hx'] at HB;clear hx hx' HT HF;go_wp2_with (go_at_call 119;refine (HB.out).mono ?_;rintro e w2 ⟨rfl,rfl⟩)
    go_roundg (n - (k + 1))
    case rel => exact ⟨k + 1,by omega,rfl,by go_num,Hh (HT'.out.symm.trans HA.out),rfl⟩
    case measure => omega
   | false =>
    have HF':=Hh (HF.out hx);have hx':(!bitB x) = true:=by rw [hx];rfl
    have HB:=Hh (beyond1_any x w);rw [hx'] at HB;clear hx hx' HT HF;go_wp2_with (go_at_call 119;refine (HB.out).mono ?_;rintro e w2 ⟨rfl,rfl⟩)
    go_ret;refine ⟨_,rfl,?_,rfl⟩;rw [← HA.out,HF'.out];simp
  ·obtain rfl:n = k:=by omega
   have HF:=Hh (show xs.all bitB = true by rw [← HA.out,List.drop_of_length_le (by rw [HN.out];exact Nat.le_refl _)];rfl)
   go_wp2;go_ret;refine ⟨_,rfl,?_,rfl⟩;rw [HF.out];rfl
theorem containsb_any (A:Option Addr) (n c:Nat) (xs:List Int) (w:World) (hn:xs.length = n) (hm:n ≤ 9223372036854775807) (hr:Nums .i64 w w.heap.size A xs) :
  Calls Tryz.prog 83 #[.slice A n c,.func (.func 119) #[] #[]] w (Gives (.bool (!(xs.all bitB))) w):=by
 have HI:=Hh (indexb_any A n c xs w hn hm hr);clear hr hn
 go_enter Tryz.func83,Tryz.ntmps83
 go_wp2_with fail;refine (HI.out).mono ?_;rintro e w2 ⟨j,rfl,hj,rfl⟩;have HJ:=Hh hj;clear hj HI;go_wp2;go_ret;exact ⟨by rw [← HJ.out];rfl,rfl⟩
theorem kindOf_any (A:Option Addr) (n c:Nat) (xs:List Int) (w:World) (hn:xs.length = n) (hm:n ≤ 9223372036854775807) (hr:Nums .i64 w w.heap.size A xs) :
  Calls Tryz.prog 87 #[.slice A n c] w (Gives (.int .i64 (kindI xs)) w):=by
 have HC:=Hh (containsb_any A n c xs w hn hm hr)
 by_cases h0:n = 0
 ·subst h0
  have e:kindI xs = 2:=by unfold kindI;rw [if_pos (.inl hn)]
  rw [e];clear hn hr HC e
  go_enter Tryz.func87,Tryz.ntmps87
  go_wp2;go_ret;exact ⟨rfl,rfl⟩
 ·have h0':(((n:Nat):Int) == 0) = false:=by simp;omega
  cases hb:xs.all bitB with
  | true =>
   have e:kindI xs = 1:=by
    unfold kindI;rw [if_neg];rintro (h | h)
    ·omega
    ·rw [hb] at h;cases h
   rw [e];rw [hb] at HC;clear hb e hn hr h0
   go_enter Tryz.func87,Tryz.ntmps87
   go_wp2_with fail;refine (HC.out).mono ?_;rintro e w2 ⟨rfl,rfl⟩;go_wp2;go_ret;exact ⟨rfl,rfl⟩
  | false =>
   have e:kindI xs = 2:=by unfold kindI;rw [if_pos (.inr hb)]
   rw [e];rw [hb] at HC;clear hb e hn hr h0
   go_enter Tryz.func87,Tryz.ntmps87
   go_wp2_with fail;refine (HC.out).mono ?_;rintro e w2 ⟨rfl,rfl⟩;go_wp2;go_ret;exact ⟨rfl,rfl⟩
open Go.RowKit Go.Lib
theorem ints_step {ks:List Nd} {k:Nat} (h:k < ks.length):intsK (ks.take (k + 1)) = intsK (ks.take k) ++ (ks.getD k nd0).ints:=by
 rw [take_one h];simp [intsK]
theorem ints_le (ks:List Nd) (k:Nat):(intsK (ks.take k)).length ≤ (intsK ks).length:=by
 have h:intsK ks = intsK (ks.take k) ++ intsK (ks.drop k):=by unfold intsK;rw [← List.flatMap_append,List.take_append_drop]
 rw [h,List.length_append];omega
theorem vals_step {ks:List Nd} {k:Nat} (h:k < ks.length):valsK (ks.take (k + 1)) = valsK (ks.take k) ++ valsN (ks.getD k nd0):=by
 rw [take_one h];simp [valsK]
theorem vals_le (ks:List Nd) (k:Nat):(valsK (ks.take k)).length ≤ (valsK ks).length:=by
 have h:valsK ks = valsK (ks.take k) ++ valsK (ks.drop k):=by unfold valsK;rw [← List.flatMap_append,List.take_append_drop]
 rw [h,List.length_append];omega
def NewIP (xs:List Int) (w:World) (e:Ending) (w':World):Prop:=∃ A c,e = .returned (.slice A xs.length c) ∧ xs.length ≤ c ∧ NewN w.heap.size A xs w' ∧ Grow w w'
def NewDP (ds:List (Int × Int)) (w:World) (e:Ending) (w':World):Prop:=∃ A c,e = .returned (.slice A ds.length c) ∧ ds.length ≤ c ∧ NewD w.heap.size A ds w' ∧ Grow w w'
theorem signs_any (A:Option Addr) (n c:Nat) (ks:List Nd) (w:World) (hn:ks.length = n) (hnb:n ≤ 1100000) (hl:(intsK ks).length ≤ 1100000) (hns:Nodes w w.heap.size A ks) :
  Calls Tryz.prog 167 #[.slice A n c] w (NewIP (intsK ks) w):=by
 have HN:=Hh hn;have HL:=Hh hl;have HNS:=Hh hns;clear hn hl hns;obtain ⟨B,hB⟩:∃ B,w.heap.size = B:=⟨_,rfl⟩;have HBE:=Hh hB;rw [hB] at HNS;clear hB
 go_enter Tryz.func167,Tryz.ntmps167
 go_wp2
 go_loopg [3,8] n (fun g s3 s8 wr => ∃ (k:Nat) (v:Value),k ≤ n ∧ g = n - k ∧ s8 = .int .i64 k ∧ v = s3 ∧ Hid (OwnI B v (intsK (ks.take k)) wr) ∧ Hid (Below B w wr))
 case atStart => exact ⟨0,_,Nat.zero_le _,rfl,rfl,rfl,Hh (ownI_nil _ _),Hh (Below.refl _ _)⟩
 case round =>
  obtain ⟨k,v,hk,rfl,rfl,rfl,HO,HG⟩:=hrel
  by_cases hlt:k < n
  ·have hlti:((k:Nat):Int) < ((n:Nat):Int):=by omega
   have hkl:k < ks.length:=by rw [HN.out];exact hlt
   obtain ⟨b,off,rfl,hb,hat⟩:=HNS.out.below HG.out (by omega)
   obtain ⟨A1,c1,A2,c2,A3,c3,p0,p1,p2,p3,hnd⟩:=hat k hkl;have HST:=Hh (ints_step hkl);have hle1:=ints_le ks (k + 1);rw [HST.out,List.length_append] at hle1;have HLE:=Hh (Nat.le_trans hle1 HL.out);have HZ:Hid (B ≤ wr.heap.size):=Hh (by rw [← HBE.out];exact HG.out.size)
   clear hat hb hle1 hkl;generalize ks.getD k nd0 = x at *;have HNX:=Hh (hnd.2.1.more HZ.out);clear hnd;have hbx:=boxN_new wr x.kind A1 x.shp.length c1 A2 x.ints.length c2 A3 x.decs.length c3;have b2:=hbx.at2;have HG2:=Hh (grow_new wr (.cells #[.int .i64 x.kind,.slice A1 x.shp.length c1,.slice A2 x.ints.length c2,.slice A3 x.decs.length c3] 34));have HO2:=Hh (HO.out.grow HG2.out);have HNX2:=Hh (HNX.out.grow HG2.out);have HZ2:=Hh (Nat.le_trans HZ.out HG2.out.size);have HGB:=Hh (Below.trans HG.out (Below.mono HG2.out HZ.out));clear hbx HO HNX;go_wp2_with (at_builtin;refine wpList_more_ints rfl _ _ rfl B v (intsK (ks.take k)) A2 x.ints.length c2 x.ints rfl HO2.out rfl rfl HNX2.out (by have:=HLE.out;omega) HZ2.out ?_;intro v' w5 HO5 HB5 HA5)
   go_roundg (n - (k + 1))
   case rel => exact ⟨k + 1,v',by omega,rfl,by go_num,rfl,Hh (by rw [HST.out];exact HO5.out),Hh (Below.trans HGB.out HB5.out)⟩
   case measure => omega
  ·obtain rfl:n = k:=by omega
   have HTA:=Hh (show ks.take n = ks from List.take_of_length_le (by rw [HN.out];exact Nat.le_refl _))
   rw [HTA.out] at HO;go_wp2;go_ret;obtain ⟨A',c',hv,hc,hN⟩:=HO.out.new;exact ⟨A',c',by rw [← hv];rfl,hc,by rw [HBE.out];exact hN,show Below w.heap.size w _ by rw [HBE.out];exact HG.out⟩
open Go.RowKit Go.Lib
theorem map_step {xs:List Int} {j:Nat} (h:j < xs.length):(xs.take (j + 1)).map ofD = (xs.take j).map ofD ++ [ofD (xs.getD j 0)]:=by
 rw [List.take_add_one,List.map_append];congr 1;simp [List.getD,h]
theorem decs_lit1 (w:World) (q r:Int):Decs (w.alloc (.cells #[.int .i64 q,.int .i64 r] 41)) (w.alloc (.cells #[.int .i64 q,.int .i64 r] 41)).heap.size (some ⟨w.heap.size,0,none⟩) [(q,r)] :=
 decs_cells (ds:=[(q,r)]) (heap_alloc_new w _)
theorem numbers_any (A:Option Addr) (n c:Nat) (ks:List Nd) (w:World) (hn:ks.length = n) (hnb:n ≤ 1100000) (hl:(valsK ks).length ≤ 1100000) (hv:Vals ks) (hns:Nodes w w.heap.size A ks) :
  Calls Tryz.prog 145 #[.slice A n c] w (NewDP (valsK ks) w):=by
 have HN:=Hh hn;have HL:=Hh hl;have HV:=Hh hv;have HNS:=Hh hns;clear hn hl hns hv;obtain ⟨B,hB⟩:∃ B,w.heap.size = B:=⟨_,rfl⟩;have HBE:=Hh hB;rw [hB] at HNS;clear hB
 go_enter Tryz.func145,Tryz.ntmps145
 go_wp2
 go_loopg [3,10] n (fun g s3 s10 wr => ∃ (k:Nat) (v:Value),k ≤ n ∧ g = n - k ∧ s10 = .int .i64 k ∧ v = s3 ∧ Hid (OwnD B v (valsK (ks.take k)) wr) ∧ Hid (Below B w wr))
 case atStart => exact ⟨0,_,Nat.zero_le _,rfl,rfl,rfl,Hh (ownD_nil _ _),Hh (Below.refl _ _)⟩
 case round =>
  obtain ⟨k,v,hk,rfl,rfl,rfl,HO,HG⟩:=hrel;obtain ⟨w1,hw1⟩:∃ w1,w1 = wr:=⟨_,rfl⟩;subst hw1
  by_cases hlt:k < n
  ·have hlti:((k:Nat):Int) < ((n:Nat):Int):=by omega
   have hkl:k < ks.length:=by rw [HN.out];exact hlt
   obtain ⟨b,off,rfl,hb,hat⟩:=HNS.out (by omega)
   obtain ⟨A1,c1,A2,c2,A3,c3,r0,r1,r2,r3,hnd⟩:=hat k hkl;have p0:=(HG.out.cell (p:=⟨b,off + k * 4,none⟩) hb).trans r0;have p1:=(HG.out.cell (p:=⟨b,off + k * 4 + 1,none⟩) hb).trans r1;have p2:=(HG.out.cell (p:=⟨b,off + k * 4 + 2,none⟩) hb).trans r2;have p3:=(HG.out.cell (p:=⟨b,off + k * 4 + 3,none⟩) hb).trans r3;have HST:=Hh (vals_step hkl);have hle1:=vals_le ks (k + 1);rw [HST.out,List.length_append] at hle1;have HLE:=Hh (Nat.le_trans hle1 HL.out)
   have HIN:Hid (∀ x ∈ (ks.getD k nd0).ints,In x):=Hh (by
    rw [show ks.getD k nd0 = ks[k] by simp [List.getD,hkl]]
    exact HV.out _ (List.getElem_mem hkl))
   have HZ:Hid (B ≤ w1.heap.size):=Hh (by rw [← HBE.out];exact HG.out.size)
   clear hat hb hle1 hkl r0 r1 r2 r3;obtain ⟨D,hD⟩:∃ D,valsK (ks.take k) = D:=⟨_,rfl⟩;rw [hD] at HO HST HLE;clear hD;generalize ks.getD k nd0 = x at *;have hvl:(valsN x).length = x.ints.length + x.decs.length:=by simp [valsN]
   rw [hvl] at HLE;clear hvl;have HNX:=Hh hnd.2.1;have HDX:=Hh hnd.2.2;clear hnd;have hbx:=boxN_new w1 x.kind A1 x.shp.length c1 A2 x.ints.length c2 A3 x.decs.length c3;have b2:=hbx.at2;have HBX:=Hh hbx;have HG2:=Hh (grow_new w1 (.cells #[.int .i64 x.kind,.slice A1 x.shp.length c1,.slice A2 x.ints.length c2,.slice A3 x.decs.length c3] 34));have HO2:=Hh (HO.out.grow HG2.out);have HGB:=Hh (Below.trans HG.out (Below.mono HG2.out HZ.out));have HV0:Hid (∀ q,v.ownBlock = some q → q < w1.heap.size):=Hh (fun q hq => (World.ownsRow.lt HO.out q hq).2);clear hbx HO HG2;have HVX:Hid (valsN x = x.ints.map ofD ++ x.decs):=Hh rfl;obtain ⟨kk,sh,xs,ds⟩:=x;dsimp only at *;obtain ⟨li,hli⟩:∃ li,xs.length = li:=⟨_,rfl⟩;have HLI:=Hh hli;obtain ⟨ld,hld⟩:∃ ld,ds.length = ld:=⟨_,rfl⟩;have HLD:=Hh hld;rw [hli] at p2 b2 HBX HO2 HGB HLE;rw [hld] at p3 b2 HBX HO2 HGB HLE;clear hli hld;have hlib:li ≤ 1100000:=by have:=HLE.out;omega
   have hbr:∀ q,w1.heap.size = q → B ≤ q:=fun q hq => hq ▸ HZ.out;obtain ⟨bx,hbx⟩:∃ bx,w1.heap.size = bx:=⟨_,rfl⟩;have HBXE:=Hh hbx;rw [hbx] at HBX HV0;clear hbx hbr;generalize sh.length = l1 at *;go_wp2;clear p0 p1 p2 p3 b2
   go_loopg [3,17] li (fun g2 s3 s17 w2 => ∃ (j:Nat) (u:Value),j ≤ li ∧ g2 = li - j ∧ s17 = .int .i64 j ∧ u = s3 ∧ Hid (OwnD B u (D ++ (xs.take j).map ofD) w2) ∧ Hid (Below B w w2) ∧
    Hid (BoxN w2 bx kk A1 l1 c1 A2 li c2 A3 ld c3) ∧ Hid (∀ q,u.ownBlock = some q → q ≠ bx))
   case atStart =>
    refine ⟨0,v,Nat.zero_le _,rfl,rfl,rfl,?_,HGB,HBX,?_⟩
    ·exact Hh (by simpa using HO2.out)
    ·exact Hh (fun q hq => by have:=HV0.out q hq;omega)
   case round =>
    obtain ⟨j,u,hj,rfl,rfl,rfl,HOJ,HGJ,HBJ,HUJ⟩:=hrel;have HZJ:Hid (B ≤ wr.heap.size):=Hh (by rw [← HBE.out];exact HGJ.out.size)
    by_cases hjl:j < li
    ·have hjli:((j:Nat):Int) < ((li:Nat):Int):=by omega
     have hjx:j < xs.length:=by rw [HLI.out];exact hjl
     obtain ⟨b',off',rfl,hb',hcl⟩:=(HNX.out.below HGJ.out) (by omega)
     have hc:=hcl j hjx;have HMS:=Hh (map_step hjx)
     have HIJ:Hid (In (xs.getD j 0)):=Hh (by
      rw [show xs.getD j 0 = xs[j] by simp [List.getD,hjx]]
      exact HIN.out _ (List.getElem_mem hjx))
     have HLJ:Hid ((D ++ (xs.take j).map ofD).length ≤ 1100000):=Hh (by
      have:=HLE.out;rw [List.length_append,List.length_map,List.length_take]
      omega)
     clear hcl hb' hjx;generalize xs.getD j 0 = y at *;have HC:=Hh (fun W => of_any y W HIJ.out);have HOFD:Hid (ofD y = (norm y 0).1):=Hh rfl;generalize norm y 0 = ny at *;obtain ⟨⟨q,r⟩,b0⟩:=ny;dsimp only at HC HOFD;go_wp2_with fail;refine (HC.out _).mono ?_;rintro e w3 ⟨rfl,hg3⟩;have HG3:=Hh (hg3.trans (grow_new w3 (.cells #[.int .i64 q,.int .i64 r] 41)));have HO3:=Hh (HOJ.out.grow HG3.out);have HL3:=Hh (decs_lit1 w3 q r);have HB3:=Hh (HBJ.out.grow HG3.out);have HZ3:=Hh (Nat.le_trans HZJ.out HG3.out.size);have HGB3:=Hh (Below.trans HGJ.out (Below.mono HG3.out HZJ.out));clear hg3 HC HOJ HBJ;go_wp2_with (at_builtin;refine wpList_more_decs rfl _ _ rfl B u _ (some ⟨w3.heap.size,0,none⟩) 1 1 [(q,r)] rfl HO3.out rfl rfl HL3.out (by have:=HLJ.out;omega) HZ3.out ?_;intro v' w5 HO5 HB5 HA5)
     go_roundg (li - (j + 1))
     case rel =>
      refine ⟨j + 1,v',by omega,rfl,by go_num,rfl,Hh ?_,Hh (Below.trans HGB3.out HB5.out),Hh ?_,Hh ?_⟩
      ·rw [HMS.out,HOFD.out,← List.append_assoc]
       exact HO5.out
      ·exact (HA5.out.1 bx HB3.out.lt (fun h => HUJ.out bx h rfl)).trans HB3.out
      ·intro q' hq' e'
       rcases HA5.out.2 with h | h
       ·exact HUJ.out q' (h ▸ hq') e'
       ·rw [h] at hq'
        cases hq'
        have:=HB3.out.lt;omega
     case measure => omega
    ·obtain rfl:li = j:=by omega
     have hjj:¬ ((li:Nat):Int) < ((li:Nat):Int):=by omega
     have HXA:=Hh (show xs.take li = xs from List.take_of_length_le (by rw [HLI.out];exact Nat.le_refl _))
     rw [HXA.out] at HOJ;have b3:=HBJ.out.at3;have hds:=(HDX.out.below HGJ.out).more HZJ.out;have HDS:=Hh hds
     have HLJ:Hid ((D ++ xs.map ofD).length + ld ≤ 1100000):=Hh (by
      have:=HLE.out;rw [List.length_append,List.length_map];have:=HLI.out
      omega)
     clear hds;rw [← HBXE.out] at b3;go_wp2_with (at_builtin;refine wpList_more_decs rfl _ _ rfl B u _ A3 ld c3 ds rfl HOJ.out rfl HLD.out HDS.out (by have:=HLJ.out;omega) HZJ.out ?_;intro v' w5 HO5 HB5 HA5)
     go_roundg (n - (k + 1))
     case rel => exact ⟨k + 1,v',by omega,rfl,by go_num,rfl,Hh (by rw [HST.out,HVX.out,← List.append_assoc];exact HO5.out),Hh (Below.trans HGJ.out HB5.out)⟩
     case measure => omega
  ·obtain rfl:n = k:=by omega
   have HTA:=Hh (show ks.take n = ks from List.take_of_length_le (by rw [HN.out];exact Nat.le_refl _))
   rw [HTA.out] at HO;go_wp2;go_ret;obtain ⟨A',c',hv,hc,hN⟩:=HO.out.new;exact ⟨A',c',by rw [← hv];rfl,hc,by rw [HBE.out];exact hN,show Below w.heap.size w _ by rw [HBE.out];exact HG.out⟩
end Go.Proofs.YteoogioanjkacaaGreatDoor
end
namespace Go.Proofs.YteoogioanjkacaaGreatDoor
open Go.RowKit Go.Lib
def KidsP (ks:List (List Nd)) (w:World) (e:Ending) (w':World):Prop :=
 ∃ A c,e = .returned (.slice A ks.length c) ∧ (A = none → c = 0) ∧ ks.length ≤ c ∧ KidsAt w' w'.heap.size A ks ∧ Grow w w'
end Go.Proofs.YteoogioanjkacaaGreatDoor
section
namespace Go.Proofs.YteoogioanjkacaaGreatDoor
open Go.RowKit
section
variable {P : Program} {Q : Exit → Act → World → Prop} {md : Region.Mode} {G : World → World → Prop}
variable {l rest : List Oper} {los : List Nat} {n k : Nat} {o : Oper} {a : Act} {w : World}
end
open Go.RowKit
section
variable {P : Program} {Q : Exit → Act → World → Prop} {md : Region.Mode} {G : World → World → Prop} {l : List Oper} {los : List Nat} {n k : Nat} {a : Act} {w : World}
end
open Go.RowKit Go.Lib
theorem eq_of_take {α:Type} {xs ys:List α} {n:Nat} (hx:xs.length = n) (hy:ys.length = n) (h:xs.take n = ys.take n):xs = ys:=by
 rw [List.take_of_length_le (by omega),List.take_of_length_le (by omega)] at h
 exact h
theorem take_next {α:Type} {d:α} {xs ys:List α} {k:Nat} (hx:k < xs.length) (hy:k < ys.length) (h:xs.take k = ys.take k) (he:xs.getD k d = ys.getD k d):xs.take (k + 1) = ys.take (k + 1):=by
 rw [List.take_add_one,List.take_add_one,h];have e1:xs.getD k d = xs[k]:=by simp [List.getD,hx]
 have e2:ys.getD k d = ys[k]:=by simp [List.getD,hy]
 rw [List.getElem?_eq_getElem hx,List.getElem?_eq_getElem hy,← e1,← e2,he]
theorem ne_at {α:Type} {d:α} {xs ys:List α} {k:Nat} (he:xs.getD k d ≠ ys.getD k d):xs ≠ ys:=fun h => he (by rw [h])
theorem eqi_any (A A':Option Addr) (n n' cap cap':Nat) (xs ys:List Int) (w:World) (hn:xs.length = n) (hn':ys.length = n') (hl:n ≤ 1100000) (hl':n' ≤ 1100000) (hr:Nums .i64 w w.heap.size A xs) (hr':Nums .i64 w w.heap.size A' ys) :
  Calls Tryz.prog 71 #[.slice A n cap,.slice A' n' cap'] w (Says (decide (xs = ys)) w):=by
 have HR:=Hh hr;have HR':=Hh hr';have HN:=Hh hn;have HN':=Hh hn';clear hr hr' hn hn'
 by_cases hnn:n = n'
 ·subst hnn
  have hne:(((n:Nat):Int) != ((n:Nat):Int)) = false:=by simp
  go_enter Tryz.func71,Tryz.ntmps71
  go_wp2
  go_loopg [13] n (fun g i wr => ∃ k:Nat,k ≤ n ∧ g = n - k ∧ i = .int .i64 k ∧ Hid (xs.take k = ys.take k) ∧ Hid (Grow w wr))
  case atStart => exact ⟨0,Nat.zero_le _,rfl,rfl,Hh rfl,Hh (Grow.refl _)⟩
  case round =>
   obtain ⟨k,hk,rfl,rfl,HE,HG⟩:=hrel
   by_cases hlt:k < n
   ·obtain ⟨b,off,rfl,hb,hc⟩:=HR.out.grow HG.out (by rw [HN.out];omega)
    obtain ⟨b',off',rfl,hb',hc'⟩:=HR'.out.grow HG.out (by rw [HN'.out];omega)
    have h1:=hc k (by rw [HN.out];exact hlt)
    have h2:=hc' k (by rw [HN'.out];exact hlt)
    have HT:=Hh (fun h => take_next (d:=0) (by rw [HN.out];exact hlt) (by rw [HN'.out];exact hlt) HE.out h)
    have HF:=Hh (fun h => ne_at (d:=(0:Int)) (xs:=xs) (ys:=ys) (k:=k) h);clear hc hc';generalize xs.getD k 0 = x at h1 HT HF;generalize ys.getD k 0 = y at h2 HT HF
    by_cases hxy:x = y
    ·subst hxy
     have HT':=Hh (HT.out rfl);clear HT HF;have hxx:(x != x) = false:=by simp
     go_wp2
     go_quiet (fail)
     go_wp2;go_roundg (n - (k + 1))
     case rel => exact ⟨k + 1,by omega,rfl,by go_num,HT',Hh (HG.out.drewN _)⟩
     case measure => omega
    ·have HF':=Hh (HF.out hxy)
     have hxx:(x != y) = true:=by simpa using hxy
     clear HT HF;go_wp2
     go_quiet (fail)
     go_wp2;go_ret;exact ⟨by rw [decide_eq_false HF'.out];rfl,HG.out.drewN _⟩
   ·obtain rfl:n = k:=by omega
    have HEQ:=Hh (eq_of_take HN.out HN'.out HE.out);go_wp2;go_ret;exact ⟨by rw [decide_eq_true HEQ.out];rfl,HG.out⟩
 ·have hne:(((n:Nat):Int) != ((n':Nat):Int)) = true:=by simp;omega
  have HEQ:Hid (¬ xs = ys):=Hh (fun h => hnn (by rw [← HN.out,← HN'.out,h]))
  go_enter Tryz.func71,Tryz.ntmps71
  go_wp2;go_ret;exact ⟨by rw [decide_eq_false HEQ.out];rfl,Grow.refl _⟩
theorem eqd_any (A A':Option Addr) (n n' cap cap':Nat) (xs ys:List (Int × Int)) (w:World) (hn:xs.length = n) (hn':ys.length = n') (hl:n ≤ 1100000) (hl':n' ≤ 1100000) (hr:Decs w w.heap.size A xs) (hr':Decs w w.heap.size A' ys) :
  Calls Tryz.prog 72 #[.slice A n cap,.slice A' n' cap'] w (Says (decide (xs = ys)) w):=by
 have HR:=Hh hr;have HR':=Hh hr';have HN:=Hh hn;have HN':=Hh hn';clear hr hr' hn hn'
 by_cases hnn:n = n'
 ·subst hnn
  have hne:(((n:Nat):Int) != ((n:Nat):Int)) = false:=by simp
  go_enter Tryz.func72,Tryz.ntmps72
  go_wp2
  go_loopg [13] n (fun g i wr => ∃ k:Nat,k ≤ n ∧ g = n - k ∧ i = .int .i64 k ∧ Hid (xs.take k = ys.take k) ∧ Hid (Grow w wr))
  case atStart => exact ⟨0,Nat.zero_le _,rfl,rfl,Hh rfl,Hh (Grow.refl _)⟩
  case round =>
   obtain ⟨k,hk,rfl,rfl,HE,HG⟩:=hrel
   by_cases hlt:k < n
   ·obtain ⟨b,off,rfl,hb,hc⟩:=HR.out.grow HG.out (by rw [HN.out];omega)
    obtain ⟨b',off',rfl,hb',hc'⟩:=HR'.out.grow HG.out (by rw [HN'.out];omega)
    obtain ⟨h1,h1'⟩:=hc k (by rw [HN.out];exact hlt)
    obtain ⟨h2,h2'⟩:=hc' k (by rw [HN'.out];exact hlt)
    have HT:=Hh (fun h => take_next (d:=(0,0)) (by rw [HN.out];exact hlt) (by rw [HN'.out];exact hlt) HE.out h)
    have HF:=Hh (fun h => ne_at (d:=((0,0):Int × Int)) (xs:=xs) (ys:=ys) (k:=k) h);clear hc hc';generalize xs.getD k (0,0) = x at h1 h1' HT HF;generalize ys.getD k (0,0) = y at h2 h2' HT HF;obtain ⟨x1,x2⟩:=x;obtain ⟨y1,y2⟩:=y;dsimp only at h1 h1' h2 h2'
    by_cases hxy:x1 = y1
    ·subst hxy
     by_cases hxy2:x2 = y2
     ·subst hxy2
      have HT':=Hh (HT.out rfl);clear HT HF;have hxx:(x1 != x1) = false:=by simp
      have hxx2:(x2 != x2) = false:=by simp
      go_wp2
      go_quiet (fail)
      go_wp2;go_roundg (n - (k + 1))
      case rel => exact ⟨k + 1,by omega,rfl,by go_num,HT',Hh (HG.out.drewN _)⟩
      case measure => omega
     ·have HF':=Hh (HF.out (fun h => hxy2 (Prod.mk.inj h).2))
      have hxx:(x2 == y2) = false:=by simpa using hxy2
      clear HT HF;go_wp2
      go_quiet (fail)
      go_wp2;go_ret;exact ⟨by rw [decide_eq_false HF'.out];rfl,HG.out.drewN _⟩
    ·have HF':=Hh (HF.out (fun h => hxy (Prod.mk.inj h).1))
     have hxx:(x1 == y1) = false:=by simpa using hxy
     clear HT HF;go_wp2
     go_quiet (fail)
     go_wp2;go_ret;exact ⟨by rw [decide_eq_false HF'.out];rfl,HG.out.drewN _⟩
   ·obtain rfl:n = k:=by omega
    have HEQ:=Hh (eq_of_take HN.out HN'.out HE.out);go_wp2;go_ret;exact ⟨by rw [decide_eq_true HEQ.out];rfl,HG.out⟩
 ·have hne:(((n:Nat):Int) != ((n':Nat):Int)) = true:=by simp;omega
  have HEQ:Hid (¬ xs = ys):=Hh (fun h => hnn (by rw [← HN.out,← HN'.out,h]))
  go_enter Tryz.func72,Tryz.ntmps72
  go_wp2;go_ret;exact ⟨by rw [decide_eq_false HEQ.out];rfl,Grow.refl _⟩
theorem nd_ne {n m:Nd} (h:n.kind ≠ m.kind ∨ n.shp ≠ m.shp ∨ n.ints ≠ m.ints ∨ n.decs ≠ m.decs):decide (n = m) = false:=by
 refine decide_eq_false fun e => ?_;subst e;simp at h
theorem nd_eq {n m:Nd} (h1:n.kind = m.kind) (h2:n.shp = m.shp) (h3:n.ints = m.ints) (h4:n.decs = m.decs):decide (n = m) = true:=by
 refine decide_eq_true ?_
 cases n;cases m
 simp_all
theorem same1_any (n m:Nd) (A1 A2 A3:Option Addr) (c1 c2 c3:Nat) (B1 B2 B3:Option Addr) (d1 d2 d3:Nat) (w:World) (hf:Fit n) (hf':Fit m) (hn:IsNd w w.heap.size A1 A2 A3 n) (hm:IsNd w w.heap.size B1 B2 B3 m) :
  Calls Tryz.prog 70 #[.agg #[.int .i64 n.kind,.slice A1 n.shp.length c1,.slice A2 n.ints.length c2,.slice A3 n.decs.length c3],.agg #[.int .i64 m.kind,.slice B1 m.shp.length d1,.slice B2 m.ints.length d2,.slice B3 m.decs.length d3]] w (Says (decide (n = m)) w):=by
 have HN:=Hh hn;have HM:=Hh hm;have HE1:=Hh (fun W g h => eqi_any A1 B1 n.shp.length m.shp.length c1 d1 n.shp m.shp W rfl rfl hf.2.1 hf'.2.1 g h);have HE2:=Hh (fun W g h => eqi_any A2 B2 n.ints.length m.ints.length c2 d2 n.ints m.ints W rfl rfl hf.2.2.1 hf'.2.2.1 g h);have HE3:=Hh (fun W g h => eqd_any A3 B3 n.decs.length m.decs.length c3 d3 n.decs m.decs W rfl rfl hf.2.2.2.1 hf'.2.2.2.1 g h);have HNE:=Hh (nd_ne (n:=n) (m:=m));have HEQ:=Hh (nd_eq (n:=n) (m:=m));clear hn hm hf hf';generalize decide (n = m) = β at *;obtain ⟨k,sh,xs,ds⟩:=n;obtain ⟨k',sh',xs',ds'⟩:=m;dsimp only [IsNd] at *
 let wA:=(w.alloc (.cells #[.int .i64 k,.slice A1 sh.length c1,.slice A2 xs.length c2,.slice A3 ds.length c3] 34)).alloc (.cells #[.int .i64 k',.slice B1 sh'.length d1,.slice B2 xs'.length d2,.slice B3 ds'.length d3] 34)
 have HG:=Hh (show Grow w wA from grow_new2 _ _ _);have HB1:=Hh (show BoxN wA w.heap.size k A1 sh.length c1 A2 xs.length c2 A3 ds.length c3 from (boxN_new w k A1 sh.length c1 A2 xs.length c2 A3 ds.length c3).grow (grow_new _ _))
 have HB2:Hid (BoxN wA (w.heap.size + 1) k' B1 sh'.length d1 B2 xs'.length d2 B3 ds'.length d3):=Hh (by
  have h:=boxN_new (w.alloc (.cells #[.int .i64 k,.slice A1 sh.length c1,.slice A2 xs.length c2,.slice A3 ds.length c3] 34)) k' B1 sh'.length d1 B2 xs'.length d2 B3 ds'.length d3;have e1:(w.alloc (.cells #[.int .i64 k,.slice A1 sh.length c1,.slice A2 xs.length c2,.slice A3 ds.length c3] 34)).heap.size = w.heap.size + 1:=by simp
  rw [e1] at h
  exact h)
 by_cases hk:k = k'
 ·subst hk
  have hkk:(k == k) = true:=by simp
  have HEQ':=Hh (HEQ.out rfl);clear HEQ
  go_enter Tryz.func70,Tryz.ntmps70
  go_wp2_with fail;refine (HE1.out wA (HN.out.1.grow HG.out) (HM.out.1.grow HG.out)).mono ?_;rintro e w1 ⟨rfl,hg1⟩;have HG1:=Hh (HG.out.trans hg1);have x2:=(HB1.out.grow hg1).at2;have y2:=(HB2.out.grow hg1).at2;have HX1:=Hh (HB1.out.grow hg1);have HY1:=Hh (HB2.out.grow hg1);clear hg1 HE1 HB1 HB2
  by_cases hs:sh = sh'
  ·rw [decide_eq_true hs]
   go_wp2_with fail;refine (HE2.out w1 (HN.out.2.1.grow HG1.out) (HM.out.2.1.grow HG1.out)).mono ?_;rintro e w2 ⟨rfl,hg2⟩;have HG2:=Hh (HG1.out.trans hg2);have x3:=(HX1.out.grow hg2).at3;have y3:=(HY1.out.grow hg2).at3;clear hg2 HE2 HX1 HY1 x2 y2
   by_cases hi:xs = xs'
   ·rw [decide_eq_true hi]
    go_wp2_with fail;refine (HE3.out w2 (HN.out.2.2.grow HG2.out) (HM.out.2.2.grow HG2.out)).mono ?_;rintro e w3 ⟨rfl,hg3⟩;have HG3:=Hh (HG2.out.trans hg3);clear hg3 HE3 x3 y3
    by_cases hd:ds = ds'
    ·have HB:=Hh (HEQ'.out hs hi hd)
     rw [decide_eq_true hd];go_wp2;go_ret;exact ⟨by rw [HB.out];rfl,HG3.out⟩
    ·have HB:=Hh (HNE.out (.inr (.inr (.inr hd))))
     rw [decide_eq_false hd];go_wp2;go_ret;exact ⟨by rw [HB.out];rfl,HG3.out⟩
   ·have HB:=Hh (HNE.out (.inr (.inr (.inl hi))))
    rw [decide_eq_false hi];go_wp2;go_ret;exact ⟨by rw [HB.out];rfl,HG2.out⟩
  ·have HB:=Hh (HNE.out (.inr (.inl hs)))
   rw [decide_eq_false hs];go_wp2;go_ret;exact ⟨by rw [HB.out];rfl,HG1.out⟩
 ·have hkk:(k == k') = false:=by simpa using hk
  have HB:=Hh (HNE.out (.inl hk))
  go_enter Tryz.func70,Tryz.ntmps70
  go_wp2;go_ret;exact ⟨by rw [HB.out];rfl,HG.out⟩
theorem eqf_any (A A':Option Addr) (n n' cap cap':Nat) (xs ys:List Nd) (w:World) (hn:xs.length = n) (hn':ys.length = n') (hl:n ≤ 1100000) (hl':n' ≤ 1100000) (hf:Fits xs) (hf':Fits ys) (hr:Nodes w w.heap.size A xs) (hr':Nodes w w.heap.size A' ys) :
  Calls Tryz.prog 69 #[.slice A n cap,.slice A' n' cap',.func (.func 70) #[] #[]] w (Says (decide (xs = ys)) w):=by
 have HR:=Hh hr;have HR':=Hh hr';have HN:=Hh hn;have HN':=Hh hn';have HF:=Hh hf;have HF':=Hh hf';clear hr hr' hn hn' hf hf'
 by_cases hnn:n = n'
 ·subst hnn
  have hne:(((n:Nat):Int) != ((n:Nat):Int)) = false:=by simp
  go_enter Tryz.func69,Tryz.ntmps69
  go_wp2
  go_loopg [17] n (fun g i wr => ∃ k:Nat,k ≤ n ∧ g = n - k ∧ i = .int .i64 k ∧ Hid (xs.take k = ys.take k) ∧ Hid (Grow w wr))
  case atStart => exact ⟨0,Nat.zero_le _,rfl,rfl,Hh rfl,Hh (Grow.refl _)⟩
  case round =>
   obtain ⟨k,hk,rfl,rfl,HE,HG⟩:=hrel
   by_cases hlt:k < n
   ·have hlti:((k:Nat):Int) < ((n:Nat):Int):=by omega
    obtain ⟨b,off,rfl,hb,hc⟩:=HR.out.grow HG.out (by rw [HN.out];omega)
    obtain ⟨b',off',rfl,hb',hc'⟩:=HR'.out.grow HG.out (by rw [HN'.out];omega)
    obtain ⟨A1,c1,A2,c2,A3,c3,p0,p1,p2,p3,hnd⟩:=hc k (by rw [HN.out];exact hlt)
    obtain ⟨B1,d1,B2,d2,B3,d3,q0,q1,q2,q3,hnd'⟩:=hc' k (by rw [HN'.out];exact hlt)
    have HT:=Hh (fun h => take_next (d:=nd0) (by rw [HN.out];exact hlt) (by rw [HN'.out];exact hlt) HE.out h)
    have HNE:=Hh (fun h => ne_at (d:=nd0) (xs:=xs) (ys:=ys) (k:=k) h);have HFX:=Hh (HF.out.at_ k);have HFY:=Hh (HF'.out.at_ k);have HND:=Hh hnd;have HND':=Hh hnd';clear hc hc' hnd hnd' hb hb';generalize xs.getD k nd0 = x at p0 p1 p2 p3 HT HNE HFX HND;generalize ys.getD k nd0 = y at q0 q1 q2 q3 HT HNE HFY HND';have HC:=Hh (fun W g h => same1_any x y A1 A2 A3 c1 c2 c3 B1 B2 B3 d1 d2 d3 W HFX.out HFY.out g h);have e0:∀ o,(wr.alloc o).cell? ⟨b',off' + k * 4,none⟩ = some (.int .i64 y.kind):=fun o => ((grow_new wr o).cell (block_lt_of_cell q0)).trans q0;have e1:∀ o,(wr.alloc o).cell? ⟨b',off' + k * 4 + 1,none⟩ = some (.slice B1 y.shp.length d1):=fun o => ((grow_new wr o).cell (block_lt_of_cell q1)).trans q1;have e2:∀ o,(wr.alloc o).cell? ⟨b',off' + k * 4 + 2,none⟩ = some (.slice B2 y.ints.length d2):=fun o => ((grow_new wr o).cell (block_lt_of_cell q2)).trans q2;have e3:∀ o,(wr.alloc o).cell? ⟨b',off' + k * 4 + 3,none⟩ = some (.slice B3 y.decs.length d3):=fun o => ((grow_new wr o).cell (block_lt_of_cell q3)).trans q3;clear q0 q1 q2 q3
    by_cases hxy:x = y
    ·have HT':=Hh (HT.out hxy)
     rw [decide_eq_true hxy] at HC;clear HT HNE hxy;go_wp2_with (go_at_call 70;refine (HC.out _ (HND.out.grow (grow_new2 _ _ _)) (HND'.out.grow (grow_new2 _ _ _))).mono ?_;rintro e w2 ⟨rfl,hg2⟩)
     go_roundg (n - (k + 1))
     case rel => exact ⟨k + 1,by omega,rfl,by go_num,HT',Hh ((HG.out.trans (grow_new2 _ _ _)).trans hg2)⟩
     case measure => omega
    ·have HF':=Hh (HNE.out hxy)
     rw [decide_eq_false hxy] at HC;clear HT HNE hxy;go_wp2_with (go_at_call 70;refine (HC.out _ (HND.out.grow (grow_new2 _ _ _)) (HND'.out.grow (grow_new2 _ _ _))).mono ?_;rintro e w2 ⟨rfl,hg2⟩)
     go_ret;exact ⟨by rw [decide_eq_false HF'.out];rfl,(HG.out.trans (grow_new2 _ _ _)).trans hg2⟩
   ·obtain rfl:n = k:=by omega
    have HEQ:=Hh (eq_of_take HN.out HN'.out HE.out);go_wp2;go_ret;exact ⟨by rw [decide_eq_true HEQ.out];rfl,HG.out⟩
 ·have hne:(((n:Nat):Int) != ((n':Nat):Int)) = true:=by simp;omega
  have HEQ:Hid (¬ xs = ys):=Hh (fun h => hnn (by rw [← HN.out,← HN'.out,h]))
  go_enter Tryz.func69,Tryz.ntmps69
  go_wp2;go_ret;exact ⟨by rw [decide_eq_false HEQ.out];rfl,Grow.refl _⟩
theorem same_any (A A':Option Addr) (n n' cap cap':Nat) (xs ys:List Nd) (w:World) (hn:xs.length = n) (hn':ys.length = n') (hl:n ≤ 1100000) (hl':n' ≤ 1100000) (hf:Fits xs) (hf':Fits ys) (hr:Nodes w w.heap.size A xs) (hr':Nodes w w.heap.size A' ys) :
  Calls Tryz.prog 33 #[.slice A n cap,.slice A' n' cap'] w (Says (decide (xs = ys)) w):=by
 have HC:=Hh (eqf_any A A' n n' cap cap' xs ys w hn hn' hl hl' hf hf' hr hr');clear hn hn' hl hl' hf hf' hr hr';generalize decide (xs = ys) = β at *
 go_enter Tryz.func33,Tryz.ntmps33
 go_wp2_with fail;refine (HC.out).mono ?_;rintro e w2 ⟨rfl,hg⟩;go_wp2;go_ret;exact ⟨rfl,hg⟩
open Go.RowKit Go.Lib
theorem rsame_any (A A':Option Addr) (n n' cap cap':Nat) (xs ys:List Int) (w:World) (hn:xs.length = n) (hn':ys.length = n') (hl:n ≤ 1100000) (hl':n' ≤ 1100000) (hr:Nums .i64 w w.heap.size A xs) (hr':Nums .i64 w w.heap.size A' ys) :
  Calls Tryz.prog 67 #[.slice A n cap,.slice A' n' cap'] w (Says (decide (xs = ys)) w):=by
 have HR:=Hh hr;have HR':=Hh hr';have HN:=Hh hn;have HN':=Hh hn';clear hr hr' hn hn'
 by_cases hnn:n = n'
 ·subst hnn
  have hne:(((n:Nat):Int) != ((n:Nat):Int)) = false:=by simp
  go_enter Tryz.func67,Tryz.ntmps67
  go_wp2
  go_loopg [5] n (fun g i wr => ∃ k:Nat,k ≤ n ∧ g = n - k ∧ i = .int .i64 k ∧ Hid (xs.take k = ys.take k) ∧ Hid (Grow w wr))
  case atStart => exact ⟨0,Nat.zero_le _,rfl,rfl,Hh rfl,Hh (Grow.refl _)⟩
  case round =>
   obtain ⟨k,hk,rfl,rfl,HE,HG⟩:=hrel
   by_cases hlt:k < n
   ·obtain ⟨b,off,rfl,hb,hc⟩:=HR.out.grow HG.out (by rw [HN.out];omega)
    obtain ⟨b',off',rfl,hb',hc'⟩:=HR'.out.grow HG.out (by rw [HN'.out];omega)
    have h1:=hc k (by rw [HN.out];exact hlt)
    have h2:=hc' k (by rw [HN'.out];exact hlt)
    have HT:=Hh (fun h => take_next (d:=0) (by rw [HN.out];exact hlt) (by rw [HN'.out];exact hlt) HE.out h)
    have HF:=Hh (fun h => ne_at (d:=(0:Int)) (xs:=xs) (ys:=ys) (k:=k) h);clear hc hc';generalize xs.getD k 0 = x at h1 HT HF;generalize ys.getD k 0 = y at h2 HT HF
    by_cases hxy:x = y
    ·subst hxy
     have HT':=Hh (HT.out rfl);clear HT HF;have hxx:(x != x) = false:=by simp
     go_wp2
     go_quiet (fail)
     go_wp2;go_roundg (n - (k + 1))
     case rel => exact ⟨k + 1,by omega,rfl,by go_num,HT',Hh (HG.out.drewN _)⟩
     case measure => omega
    ·have HF':=Hh (HF.out hxy)
     have hxx:(x != y) = true:=by simpa using hxy
     clear HT HF;go_wp2
     go_quiet (fail)
     go_wp2;go_ret;exact ⟨by rw [decide_eq_false HF'.out];rfl,HG.out.drewN _⟩
   ·obtain rfl:n = k:=by omega
    have HEQ:=Hh (eq_of_take HN.out HN'.out HE.out);go_wp2;go_ret;exact ⟨by rw [decide_eq_true HEQ.out];rfl,HG.out⟩
 ·have hne:(((n:Nat):Int) != ((n':Nat):Int)) = true:=by simp;omega
  have HEQ:Hid (¬ xs = ys):=Hh (fun h => hnn (by rw [← HN.out,← HN'.out,h]))
  go_enter Tryz.func67,Tryz.ntmps67
  go_wp2;go_ret;exact ⟨by rw [decide_eq_false HEQ.out];rfl,Grow.refl _⟩
theorem rone_any (n m:Nd) (A1 A2 A3:Option Addr) (c1 c2 c3:Nat) (B1 B2 B3:Option Addr) (d1 d2 d3:Nat) (w:World) (hf:Fit n) (hf':Fit m) (hn:IsNd w w.heap.size A1 A2 A3 n) (hm:IsNd w w.heap.size B1 B2 B3 m) :
  Calls Tryz.prog 31 #[.agg #[.int .i64 n.kind,.slice A1 n.shp.length c1,.slice A2 n.ints.length c2,.slice A3 n.decs.length c3],.agg #[.int .i64 m.kind,.slice B1 m.shp.length d1,.slice B2 m.ints.length d2,.slice B3 m.decs.length d3]] w (Says (decide (n = m)) w):=by
 have HN:=Hh hn;have HM:=Hh hm;have HE1:=Hh (fun W g h => rsame_any A1 B1 n.shp.length m.shp.length c1 d1 n.shp m.shp W rfl rfl hf.2.1 hf'.2.1 g h);have HE2:=Hh (fun W g h => rsame_any A2 B2 n.ints.length m.ints.length c2 d2 n.ints m.ints W rfl rfl hf.2.2.1 hf'.2.2.1 g h);have HNE:=Hh (nd_ne (n:=n) (m:=m));have HEQ:=Hh (nd_eq (n:=n) (m:=m));have hl3:=hf.2.2.2.1;have hl3':=hf'.2.2.2.1;clear hn hm hf hf';generalize decide (n = m) = β at *;obtain ⟨k,sh,xs,ds⟩:=n;obtain ⟨k',sh',xs',ds'⟩:=m;dsimp only [IsNd] at *;obtain ⟨D,hD⟩:∃ D,ds.length = D:=⟨_,rfl⟩;obtain ⟨D',hD'⟩:∃ D',ds'.length = D':=⟨_,rfl⟩;rw [hD] at hl3 ⊢;rw [hD'] at hl3' ⊢;have HD:=Hh hD;have HD':=Hh hD';clear hD hD';obtain ⟨wA,hwA⟩:∃ wA,wA = (w.alloc (.cells #[.int .i64 k,.slice A1 sh.length c1,.slice A2 xs.length c2,.slice A3 D c3] 34)).alloc (.cells #[.int .i64 k',.slice B1 sh'.length d1,.slice B2 xs'.length d2,.slice B3 D' d3] 34):=⟨_,rfl⟩;have HG:=Hh (show Grow w wA by rw [hwA];exact grow_new2 _ _ _)
 have HB1:=Hh (show BoxN wA w.heap.size k A1 sh.length c1 A2 xs.length c2 A3 D c3 by rw [hwA];exact (boxN_new w k A1 sh.length c1 A2 xs.length c2 A3 D c3).grow (grow_new _ _))
 have HB2:Hid (BoxN wA (w.heap.size + 1) k' B1 sh'.length d1 B2 xs'.length d2 B3 D' d3):=Hh (by
  have h:=boxN_new (w.alloc (.cells #[.int .i64 k,.slice A1 sh.length c1,.slice A2 xs.length c2,.slice A3 D c3] 34)) k' B1 sh'.length d1 B2 xs'.length d2 B3 D' d3;have e1:(w.alloc (.cells #[.int .i64 k,.slice A1 sh.length c1,.slice A2 xs.length c2,.slice A3 D c3] 34)).heap.size = w.heap.size + 1:=by simp
  rw [e1] at h;rw [hwA]
  exact h)
 by_cases hDD:D = D'
 ·subst hDD
  have hne:(((D:Nat):Int) != ((D:Nat):Int)) = false:=by simp
  go_enter Tryz.func31,Tryz.ntmps31
  go_wp2;rw [← hwA];clear hwA
  go_loopg [5] D (fun g s5 wr => ∃ j:Nat,j ≤ D ∧ g = D - j ∧ s5 = .int .i64 j ∧ Hid (ds.take j = ds'.take j) ∧ Hid (Grow wA wr))
  case atStart => exact ⟨0,Nat.zero_le _,rfl,rfl,Hh rfl,Hh (Grow.refl _)⟩
  case round =>
   obtain ⟨j,hj,rfl,rfl,HE,HGR⟩:=hrel;have HBW1:=Hh (HB1.out.grow HGR.out);have HBW2:=Hh (HB2.out.grow HGR.out);have x0:=HBW1.out.at0;have x1:=HBW1.out.at1;have x2:=HBW1.out.at2;have x3:=HBW1.out.at3;have y0:=HBW2.out.at0;have y1:=HBW2.out.at1;have y2:=HBW2.out.at2;have y3:=HBW2.out.at3
   by_cases hlt:j < D
   ·have hlti:((j:Nat):Int) < ((D:Nat):Int):=by omega
    obtain ⟨b,off,rfl,hb,hc⟩:=HN.out.2.2.grow (HG.out.trans HGR.out) (by rw [HD.out];omega)
    obtain ⟨b',off',rfl,hb',hc'⟩:=HM.out.2.2.grow (HG.out.trans HGR.out) (by rw [HD'.out];omega)
    obtain ⟨h1,h1'⟩:=hc j (by rw [HD.out];exact hlt)
    obtain ⟨h2,h2'⟩:=hc' j (by rw [HD'.out];exact hlt)
    have HT:=Hh (fun h => take_next (d:=(0,0)) (by rw [HD.out];exact hlt) (by rw [HD'.out];exact hlt) HE.out h)
    have HF:=Hh (fun h => ne_at (d:=((0,0):Int × Int)) (xs:=ds) (ys:=ds') (k:=j) h);clear hc hc' hb hb' x0 x1 x2 y0 y1 y2;generalize ds.getD j (0,0) = x at h1 h1' HT HF;generalize ds'.getD j (0,0) = y at h2 h2' HT HF;obtain ⟨p1,p2⟩:=x;obtain ⟨q1,q2⟩:=y;dsimp only at h1 h1' h2 h2'
    by_cases hxy:p1 = q1
    ·subst hxy
     by_cases hxy2:p2 = q2
     ·subst hxy2
      have HT':=Hh (HT.out rfl);clear HT HF;have hxx:(p1 != p1) = false:=by simp
      have hxx2:(p2 != p2) = false:=by simp
      go_wp2
      go_quiet (fail)
      go_wp2;go_roundg (D - (j + 1))
      case rel => exact ⟨j + 1,by omega,rfl,by go_num,HT',Hh (HGR.out.drewN _)⟩
      case measure => omega
     ·have HF':=Hh (HNE.out (.inr (.inr (.inr (HF.out (fun h => hxy2 (Prod.mk.inj h).2))))))
      have hxx:(p2 == q2) = false:=by simpa using hxy2
      clear HT HF;go_wp2
      go_quiet (fail)
      go_wp2;go_ret;exact ⟨by rw [HF'.out];rfl,(HG.out.trans HGR.out).drewN _⟩
    ·have HF':=Hh (HNE.out (.inr (.inr (.inr (HF.out (fun h => hxy (Prod.mk.inj h).1))))))
     have hxx:(p1 == q1) = false:=by simpa using hxy
     clear HT HF;go_wp2
     go_quiet (fail)
     go_wp2;go_ret;exact ⟨by rw [HF'.out];rfl,(HG.out.trans HGR.out).drewN _⟩
   ·obtain rfl:D = j:=by omega
    have HDQ:=Hh (eq_of_take HD.out HD'.out HE.out);have HGW:=Hh (HG.out.trans HGR.out);clear HGR HG HB1 HB2 x0 y0;have x0:=HBW1.out.at0;have y0:=HBW2.out.at0
    by_cases hk:k = k'
    ·subst hk
     have hkk:(k == k) = true:=by simp
     have HEQ':=Hh (HEQ.out rfl);clear HEQ;go_wp2_with fail;refine (HE1.out wr (HN.out.1.grow HGW.out) (HM.out.1.grow HGW.out)).mono ?_;rintro e w1 ⟨rfl,hg1⟩;have HG1:=Hh (HGW.out.trans hg1);have x2:=(HBW1.out.grow hg1).at2;have y2:=(HBW2.out.grow hg1).at2;clear hg1 HE1 HBW1 HBW2 x0 x1 x3 y0 y1 y3
     by_cases hs:sh = sh'
     ·rw [decide_eq_true hs]
      go_wp2_with fail;refine (HE2.out w1 (HN.out.2.1.grow HG1.out) (HM.out.2.1.grow HG1.out)).mono ?_;rintro e w2 ⟨rfl,hg2⟩;have HG2:=Hh (HG1.out.trans hg2);clear hg2 HE2 x2 y2
      by_cases hi:xs = xs'
      ·have HB:=Hh (HEQ'.out hs hi HDQ.out)
       rw [decide_eq_true hi];go_wp2;go_ret;exact ⟨by rw [HB.out];rfl,HG2.out⟩
      ·have HB:=Hh (HNE.out (.inr (.inr (.inl hi))))
       rw [decide_eq_false hi];go_wp2;go_ret;exact ⟨by rw [HB.out];rfl,HG2.out⟩
     ·have HB:=Hh (HNE.out (.inr (.inl hs)))
      rw [decide_eq_false hs];go_wp2;go_ret;exact ⟨by rw [HB.out];rfl,HG1.out⟩
    ·have hkk:(k == k') = false:=by simpa using hk
     have HB:=Hh (HNE.out (.inl hk));go_wp2;go_ret;exact ⟨by rw [HB.out];rfl,HGW.out⟩
 ·have hne:(((D:Nat):Int) != ((D':Nat):Int)) = true:=by simp;omega
  have HB:=Hh (HNE.out (.inr (.inr (.inr (fun h => hDD (by rw [← HD.out,← HD'.out,h]))))))
  go_enter Tryz.func31,Tryz.ntmps31
  go_wp2;go_ret;rw [← hwA];exact ⟨by rw [HB.out];rfl,HG.out⟩
theorem rsameN_any (A A':Option Addr) (n n' cap cap':Nat) (xs ys:List Nd) (w:World) (hn:xs.length = n) (hn':ys.length = n') (hl:n ≤ 1100000) (hl':n' ≤ 1100000) (hf:Fits xs) (hf':Fits ys) (hr:Nodes w w.heap.size A xs) (hr':Nodes w w.heap.size A' ys) :
  Calls Tryz.prog 15 #[.slice A n cap,.slice A' n' cap'] w (Says (decide (xs = ys)) w):=by
 have HR:=Hh hr;have HR':=Hh hr';have HN:=Hh hn;have HN':=Hh hn';have HF:=Hh hf;have HF':=Hh hf';clear hr hr' hn hn' hf hf'
 by_cases hnn:n = n'
 ·subst hnn
  have hne:(((n:Nat):Int) != ((n:Nat):Int)) = false:=by simp
  go_enter Tryz.func15,Tryz.ntmps15
  go_wp2
  go_loopg [5] n (fun g i wr => ∃ k:Nat,k ≤ n ∧ g = n - k ∧ i = .int .i64 k ∧ Hid (xs.take k = ys.take k) ∧ Hid (Grow w wr))
  case atStart => exact ⟨0,Nat.zero_le _,rfl,rfl,Hh rfl,Hh (Grow.refl _)⟩
  case round =>
   obtain ⟨k,hk,rfl,rfl,HE,HG⟩:=hrel
   by_cases hlt:k < n
   ·have hlti:((k:Nat):Int) < ((n:Nat):Int):=by omega
    obtain ⟨b,off,rfl,hb,hc⟩:=HR.out.grow HG.out (by rw [HN.out];omega)
    obtain ⟨b',off',rfl,hb',hc'⟩:=HR'.out.grow HG.out (by rw [HN'.out];omega)
    obtain ⟨A1,c1,A2,c2,A3,c3,p0,p1,p2,p3,hnd⟩:=hc k (by rw [HN.out];exact hlt)
    obtain ⟨B1,d1,B2,d2,B3,d3,q0,q1,q2,q3,hnd'⟩:=hc' k (by rw [HN'.out];exact hlt)
    have HT:=Hh (fun h => take_next (d:=nd0) (by rw [HN.out];exact hlt) (by rw [HN'.out];exact hlt) HE.out h)
    have HNE:=Hh (fun h => ne_at (d:=nd0) (xs:=xs) (ys:=ys) (k:=k) h);have HFX:=Hh (HF.out.at_ k);have HFY:=Hh (HF'.out.at_ k);have HND:=Hh hnd;have HND':=Hh hnd';clear hc hc' hnd hnd';have HBX:=Hh hb;have HBY:=Hh hb';clear hb hb';generalize xs.getD k nd0 = x at p0 p1 p2 p3 HT HNE HFX HND;generalize ys.getD k nd0 = y at q0 q1 q2 q3 HT HNE HFY HND';have P0:=Hh p0;have P1:=Hh p1;have P2:=Hh p2;have P3:=Hh p3;have Q0:=Hh q0;have Q1:=Hh q1;have Q2:=Hh q2;have Q3:=Hh q3;clear p0 p1 p2 p3 q0 q1 q2 q3;have HC:=Hh (fun W g h => rone_any x y A1 A2 A3 c1 c2 c3 B1 B2 B3 d1 d2 d3 W HFX.out HFY.out g h);obtain ⟨β,hβ⟩:∃ β,decide (x = y) = β:=⟨_,rfl⟩;rw [hβ] at HC;have HBE:=Hh hβ;clear hβ;go_wp2;refine wp_region_R Grow (n:=10) rfl (by kernel_rfl) ?_
    intro W0 hW0e hW0;have p0:∀ wg,Grow W0 wg → wg.cell? ⟨b,off + k * 4,none⟩ = some (.int .i64 x.kind):=fun wg h => ((hW0.trans h).cell (p:=⟨b,off + k * 4,none⟩) HBX.out).trans P0.out;have p1:∀ wg,Grow W0 wg → wg.cell? ⟨b,off + k * 4 + 1,none⟩ = some (.slice A1 x.shp.length c1):=fun wg h => ((hW0.trans h).cell (p:=⟨b,off + k * 4 + 1,none⟩) HBX.out).trans P1.out;have p2:∀ wg,Grow W0 wg → wg.cell? ⟨b,off + k * 4 + 2,none⟩ = some (.slice A2 x.ints.length c2):=fun wg h => ((hW0.trans h).cell (p:=⟨b,off + k * 4 + 2,none⟩) HBX.out).trans P2.out;have p3:∀ wg,Grow W0 wg → wg.cell? ⟨b,off + k * 4 + 3,none⟩ = some (.slice A3 x.decs.length c3):=fun wg h => ((hW0.trans h).cell (p:=⟨b,off + k * 4 + 3,none⟩) HBX.out).trans P3.out;have q0:∀ wg,Grow W0 wg → wg.cell? ⟨b',off' + k * 4,none⟩ = some (.int .i64 y.kind):=fun wg h => ((hW0.trans h).cell (p:=⟨b',off' + k * 4,none⟩) HBY.out).trans Q0.out;have q1:∀ wg,Grow W0 wg → wg.cell? ⟨b',off' + k * 4 + 1,none⟩ = some (.slice B1 y.shp.length d1):=fun wg h => ((hW0.trans h).cell (p:=⟨b',off' + k * 4 + 1,none⟩) HBY.out).trans Q1.out;have q2:∀ wg,Grow W0 wg → wg.cell? ⟨b',off' + k * 4 + 2,none⟩ = some (.slice B2 y.ints.length d2):=fun wg h => ((hW0.trans h).cell (p:=⟨b',off' + k * 4 + 2,none⟩) HBY.out).trans Q2.out;have q3:∀ wg,Grow W0 wg → wg.cell? ⟨b',off' + k * 4 + 3,none⟩ = some (.slice B3 y.decs.length d3):=fun wg h => ((hW0.trans h).cell (p:=⟨b',off' + k * 4 + 3,none⟩) HBY.out).trans Q3.out
    have HW0:=Hh hW0;clear hW0;clear hW0e;refine wpR_take growOrd (i:=0) (v:=?vf1) rfl (by kernel_rfl) (by kernel_rfl) (by kernel_rfl) (fun _ _ _ h => h) (by rfl) ?hf1 ?rf1
    case hf1 => (intro wg hSw;go_simp <;> with_reducible rfl)
    simp only [Act.put,List.setIfInBounds_toArray,List.set_cons_zero,List.set_cons_succ];refine wpR_take growOrd (i:=1) (v:=?vf2) rfl (by kernel_rfl) (by kernel_rfl) (by kernel_rfl) (fun _ _ _ h => h) (by rfl) ?hf2 ?rf2
    case hf2 => (intro wg hSw;go_simp <;> with_reducible rfl)
    simp only [Act.put,List.setIfInBounds_toArray,List.set_cons_zero,List.set_cons_succ];refine wpR_take growOrd (i:=2) (v:=?vf3) rfl (by kernel_rfl) (by kernel_rfl) (by kernel_rfl) (fun _ _ _ h => h) (by rfl) ?hf3 ?rf3
    case hf3 => (intro wg hSw;go_simp <;> with_reducible rfl)
    simp only [Act.put,List.setIfInBounds_toArray,List.set_cons_zero,List.set_cons_succ];refine wpR_take growOrd (i:=3) (v:=?vf4) rfl (by kernel_rfl) (by kernel_rfl) (by kernel_rfl) (fun _ _ _ h => h) (by rfl) ?hf4 ?rf4
    case hf4 => (intro wg hSw;go_simp <;> with_reducible rfl)
    simp only [Act.put,List.setIfInBounds_toArray,List.set_cons_zero,List.set_cons_succ];refine wpR_take growOrd (i:=4) (v:=?vf5) rfl (by kernel_rfl) (by kernel_rfl) (by kernel_rfl) (fun _ _ _ h => h) (by rfl) ?hf5 ?rf5
    case hf5 => (intro wg hSw;go_simp <;> with_reducible rfl)
    simp only [Act.put,List.setIfInBounds_toArray,List.set_cons_zero,List.set_cons_succ];refine wpR_take growOrd (i:=5) (v:=?vf6) rfl (by kernel_rfl) (by kernel_rfl) (by kernel_rfl) (fun _ _ _ h => h) (by rfl) ?hf6 ?rf6
    case hf6 => (intro wg hSw;go_simp <;> with_reducible rfl)
    simp only [Act.put,List.setIfInBounds_toArray,List.set_cons_zero,List.set_cons_succ];refine wpR_take growOrd (i:=6) (v:=?vf7) rfl (by kernel_rfl) (by kernel_rfl) (by kernel_rfl) (fun _ _ _ h => h) (by rfl) ?hf7 ?rf7
    case hf7 => (intro wg hSw;go_simp <;> with_reducible rfl)
    simp only [Act.put,List.setIfInBounds_toArray,List.set_cons_zero,List.set_cons_succ];refine wpR_take growOrd (i:=7) (v:=?vf8) rfl (by kernel_rfl) (by kernel_rfl) (by kernel_rfl) (fun _ _ _ h => h) (by rfl) ?hf8 ?rf8
    case hf8 => (intro wg hSw;go_simp <;> with_reducible rfl)
    simp only [Act.put,List.setIfInBounds_toArray,List.set_cons_zero,List.set_cons_succ];refine wpR_one (i:=8) (by kernel_rfl) ?_
    refine wpR_op (i:=8) rfl (by rfl) (fun K hK => ?_)
    go_simp;refine (HC.out _ (HND.out.grow (HW0.out.trans ((growOrd).refl W0))) (HND'.out.grow (HW0.out.trans ((growOrd).refl W0)))).mono ?_;rintro e wM8 ⟨rfl,hN8⟩;have hM8:Grow W0 wM8:=hN8;clear p0 p1 p2 p3 q0 q1 q2 q3;refine hK.out _ _ hM8 ?_;clear hK K
    try simp only [Act.put,List.setIfInBounds_toArray,List.set_cons_zero,List.set_cons_succ]
    refine wpR_take growOrd (i:=9) (v:=?vf9) rfl (by kernel_rfl) (by kernel_rfl) (by kernel_rfl) (fun _ _ _ h => h) (by rfl) ?hf9 ?rf9
    case hf9 => (intro wg hSw;go_simp <;> with_reducible rfl)
    simp only [Act.put,List.setIfInBounds_toArray,List.set_cons_zero,List.set_cons_succ];refine wpR_done (by kernel_rfl) ?_
    have HGW:=Hh (HG.out.trans (HW0.out.trans ((growOrd).trans ((growOrd).refl W0) hM8)))
    cases β with
    | true =>
     have HT':=Hh (HT.out (of_decide_eq_true HBE.out));go_wp2;go_roundg (n - (k + 1))
     case rel => exact ⟨k + 1,by omega,rfl,by go_num,HT',HGW⟩
     case measure => omega
    | false =>
     have HF2:=Hh (HNE.out (of_decide_eq_false HBE.out));go_wp2;go_ret;exact ⟨by rw [decide_eq_false HF2.out];rfl,HGW.out⟩
   ·obtain rfl:n = k:=by omega
    have HEQ:=Hh (eq_of_take HN.out HN'.out HE.out);go_wp2;go_ret;exact ⟨by rw [decide_eq_true HEQ.out];rfl,HG.out⟩
 ·have hne:(((n:Nat):Int) != ((n':Nat):Int)) = true:=by simp;omega
  have HEQ:Hid (¬ xs = ys):=Hh (fun h => hnn (by rw [← HN.out,← HN'.out,h]))
  go_enter Tryz.func15,Tryz.ntmps15
  go_wp2;go_ret;exact ⟨by rw [decide_eq_false HEQ.out];rfl,Grow.refl _⟩
end Go.Proofs.YteoogioanjkacaaGreatDoor
end
namespace Go.Proofs.YteoogioanjkacaaGreatDoor
open Go.RowKit Go.Lib
def nd1 (n:Int):Nd:=⟨2,[],[n],[]⟩
def sa:List Nd:=[⟨5,[2],[],[]⟩,nd1 3,nd1 4]
def sd:List Nd:=[⟨5,[0],[],[]⟩]
theorem s1:nestB [2] [[nd1 3],[nd1 4]] = true:=by decide +kernel
theorem s2:nestB [2] [[nd1 3]] = false:=by decide +kernel
theorem s3:nestB [0] [] = true:=by decide +kernel
theorem s4:rightA sa = true:=by decide +kernel
theorem s5:rightA sd = true:=by decide +kernel
theorem s6:rightA (sa.take 2) = false:=by decide +kernel
theorem s7:rightA [] = false:=by decide +kernel
theorem s8:(fs (sa ++ [nd1 5])).n = 3:=by decide +kernel
theorem s9:(ws sa).i = 4:=by decide +kernel
theorem s10:(ws sa).d = 2:=by decide +kernel
theorem s11:(ws sd).d = 1:=by decide +kernel
theorem s12:(ws sa).r = 1:=by decide +kernel
theorem s13:(ws (sa.take 2)).i = 0:=by decide +kernel
theorem s14:decide ([nd1 4] = [nd1 4]) = true:=by decide +kernel
theorem s15:decide ([nd1 3] = [nd1 4]) = false:=by decide +kernel
theorem s16:rightA [⟨1,[],[2],[]⟩] = false:=by decide +kernel
theorem s17:rightA [⟨2,[],[],[]⟩] = false:=by decide +kernel
theorem s20:kidsA sa = [[nd1 3],[nd1 4]]:=by
 have h1:takeA [nd1 3,nd1 4] = 1:=by decide +kernel
 have h2:takeA [nd1 4] = 1:=by decide +kernel
 unfold kidsA;rw [s4,if_pos rfl,show sa.drop 1 = [nd1 3,nd1 4] from rfl,kd_step (by simp) (by rw [h1];decide),h1,show [nd1 3,nd1 4].drop 1 = [nd1 4] from rfl,kd_step (by simp) (by rw [h2];decide),h2,show [nd1 4].drop 1 = [] from rfl,kd_nil]
 rfl
theorem fitsOne {n:Nd} (h:Fit n):Fits [n]:=fun k hk => by rw [List.mem_singleton.1 hk];exact h
theorem nums_lit (w:World) (xs:List Int):Nums .i64 (w.alloc (.cells (ivs xs).toArray 3)) (w.alloc (.cells (ivs xs).toArray 3)).heap.size (some ⟨w.heap.size,0,none⟩) xs:=nums_cells (heap_alloc_new w _)
theorem decs_lit (w:World) (ds:List (Int × Int)):Decs (w.alloc (.cells (dvs ds).toArray 41)) (w.alloc (.cells (dvs ds).toArray 41)).heap.size (some ⟨w.heap.size,0,none⟩) ds:=decs_cells (heap_alloc_new w _)
theorem node_lit (w:World) (k:Int) (A1:Option Addr) (l1 c1:Nat) (A2:Option Addr) (l2 c2:Nat) (A3:Option Addr) (l3 c3:Nat) (n:Nd) (hk:n.kind = k) (h1:n.shp.length = l1) (h2:n.ints.length = l2) (h3:n.decs.length = l3) (hn:IsNd w w.heap.size A1 A2 A3 n) :
  Nodes (w.alloc (.cells #[.int .i64 k,.slice A1 l1 c1,.slice A2 l2 c2,.slice A3 l3 c3] 34)) (w.alloc (.cells #[.int .i64 k,.slice A1 l1 c1,.slice A2 l2 c2,.slice A3 l3 c3] 34)).heap.size (some ⟨w.heap.size,0,none⟩) [n]:=by
 subst hk h1 h2 h3;exact boxN_nodes (boxN_new w _ _ _ _ _ _ _ _ _ _) (hn.grow (grow_new _ _))
end Go.Proofs.YteoogioanjkacaaGreatDoor
