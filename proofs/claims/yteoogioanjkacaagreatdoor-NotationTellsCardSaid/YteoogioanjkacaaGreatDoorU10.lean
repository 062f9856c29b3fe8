/-
  Contracts, joined: Quoted, Numbers, QFull, QTexts, Built, WriteP, RMore, LayP, SignsP, WholeP, KidsP, ShapedP. Nothing is claimed here by itself.
-/
import Derived.Test.YteoogioanjkacaaGreatDoorU01
import Derived.Test.YteoogioanjkacaaGreatDoorU04
import Derived.Test.YteoogioanjkacaaGreatDoorU06
import Derived.Test.YteoogioanjkacaaGreatDoorU08
import Derived.Test.YteoogioanjkacaaGreatDoorU09
import Derived.ArgAppend
import Derived.Lib.SlBytesConst
import Derived.Deep.LoopGhost
import Derived.Deep.CutBlock
import Derived.Deep.DeepCutAuto
set_option maxRecDepth 100000
set_option maxHeartbeats 12800000
set_option linter.unusedSimpArgs false
set_option linter.unusedVariables false
namespace Go.Proofs.YteoogioanjkacaaGreatDoor
open Go.RowKit Go.Lib
theorem idx_split (b:UInt8):∀ (l:List UInt8),(indexByte l b = -1 ∧ ∀ x ∈ l,x ≠ b) ∨ ∃ p r,l = p ++ b :: r ∧ (∀ x ∈ p,x ≠ b) ∧ indexByte l b = (p.length:Nat)
 | [] => .inl ⟨rfl,fun x hx => by cases hx⟩
 | x :: l => by
  have hd:indexByte (x :: l) b = if (x == b) = true then (0:Int) else if (indexByte l b == -1) = true then -1 else indexByte l b + 1:=rfl
  by_cases hx:x = b
  ·subst hx
   exact .inr ⟨[],l,rfl,(fun x hx => by cases hx),by rw [hd,if_pos (by simp)];rfl⟩
  ·have hx1:¬ (x == b) = true:=by simpa using hx
   rcases idx_split b l with ⟨h1,h2⟩ | ⟨p,r,rfl,h2,h3⟩
   ·refine .inl ⟨by rw [hd,if_neg hx1,h1];rfl,fun y hy => ?_⟩
    rcases List.mem_cons.1 hy with rfl | hy
    ·exact hx
    ·exact h2 y hy
   ·refine .inr ⟨x :: p,r,rfl,fun y hy => ?_,?_⟩
    ·rcases List.mem_cons.1 hy with rfl | hy
     ·exact hx
     ·exact h2 y hy
    ·rw [hd,if_neg hx1,h3,if_neg (by simp),List.length_cons]
     try push_cast
     try rfl
theorem scan_pre:∀ {p:List UInt8} {l:List UInt8},(∀ x ∈ p,x ≠ 39) → (Quo.scanQ (p ++ l)).map (·.2) = (Quo.scanQ l).map (·.2)
 | [],l,_ => rfl
 | x :: p,l,h => by
  rw [List.cons_append,Quo.scan_other (h x (by simp)),Option.map_map]
  show (Quo.scanQ (p ++ l)).map (·.2) = _
  exact scan_pre fun y hy => h y (by simp [hy])
theorem scan_no:∀ {p:List UInt8},(∀ x ∈ p,x ≠ 39) → Quo.scanQ p = none:=fun {p} h => by
 have:=scan_pre (l:=[]) h;rw [List.append_nil] at this;have h0:Quo.scanQ [] = none:=by rw [Quo.scanQ.eq_def]
 rw [h0] at this
 cases hq:Quo.scanQ p with
 | none => rfl
 | some q => rw [hq] at this;cases this
def Quo1 (s:List UInt8) (k:Nat):Prop:=1 ≤ k ∧ (Quo.scanQ (s.drop 1)).map (·.2) = (Quo.scanQ (s.drop k)).map (·.2)
theorem quo_none {s:List UInt8} {k:Nat} (h:Quo1 s k) (hk:∀ x ∈ s.drop k,x ≠ 39):quotN s = s.length:=by
 have:=h.2;rw [scan_no hk] at this;unfold quotN
 cases hq:Quo.scanQ (s.drop 1) with
 | none => rfl
 | some q => rw [hq] at this;cases this
theorem quo_split {s p r:List UInt8} {k:Nat} (h:Quo1 s k) (hk:k ≤ s.length) (hs:s.drop k = p ++ 39 :: r) (hp:∀ x ∈ p,x ≠ 39) :
  s.drop (k + p.length + 1) = r ∧ k + p.length + 1 ≤ s.length ∧ (begB r [39] = false → quotN s = k + p.length + 1) ∧ (begB r [39] = true → Quo1 s (k + p.length + 1 + 1) ∧ k + p.length + 1 + 1 ≤ s.length):=by
 have e:s.drop (k + p.length + 1) = r:=by
  have:(s.drop k).drop (p.length + 1) = r:=by rw [hs];simp
  rw [List.drop_drop] at this;rw [← this];congr 1
 have hl:(s.drop k).length = p.length + (r.length + 1):=by rw [hs];simp
 rw [List.length_drop] at hl;have hq:=h.2;rw [hs,scan_pre hp] at hq;refine ⟨e,by omega,fun hb => ?_,fun hb => ?_⟩
 ·have hr:r.head? ≠ some 39:=by
   intro e1
   cases r with
   | nil => cases e1
   | cons x t => rw [List.head?_cons] at e1;cases e1;rw [beg_one.2 ⟨t,rfl⟩] at hb;cases hb
  rw [Quo.scan_end hr] at hq;unfold quotN
  cases hq1:Quo.scanQ (s.drop 1) with
  | none => rw [hq1] at hq;cases hq
  | some q =>
   rw [hq1] at hq;simp only [Option.map_some,Option.some.injEq] at hq;simp only [hq];omega
 ·obtain ⟨t,rfl⟩:=beg_one.1 hb
  rw [Quo.scan_two,Option.map_map] at hq;have e2:s.drop (k + p.length + 1 + 1) = t:=by rw [← List.drop_drop,e];rfl
  refine ⟨⟨by omega,?_⟩,by rw [List.length_cons] at hl;omega⟩
  rw [e2,hq];rfl
theorem quoted_any (s:List UInt8) (w:World) (h1:1 ≤ s.length) (hl:s.length ≤ 100000):Calls Tryz.prog 94 #[.string ⟨s.toArray⟩] w fun e w' => e = .returned (.int .i64 (quotN s:Nat)) ∧ w' = w:=by
 have HI:=Hh (fun (x:List UInt8) W => Tryz.strings_Index_one ⟨x.toArray⟩ 39 W);have HP:=Hh (fun (x:List UInt8) W => Tryz.strings_HasPrefix ⟨x.toArray⟩ ⟨#[39]⟩ W);have hsz:(⟨s.toArray⟩:ByteArray).size = s.length:=by simp [ByteArray.size]
 have HSL:=Hh (fun n hn W => Num.slice_from s n hn W);obtain ⟨S,hS⟩:∃ S,(⟨s.toArray⟩:ByteArray) = S:=⟨_,rfl⟩;rw [hS] at hsz HSL ⊢;clear hS
 go_enter Tryz.func94,Tryz.ntmps94
 go_wp2
 go_loopg [3] (s.length - 1) (fun gk s3 wr => ∃ k:Nat,s3 = .int .i64 k ∧ 1 ≤ k ∧ k ≤ s.length ∧ gk = s.length - k ∧ Hid (Quo1 s k) ∧ wr = w)
 case atStart => exact ⟨1,rfl,Nat.le_refl _,h1,rfl,Hh ⟨Nat.le_refl _,rfl⟩,rfl⟩
 case round =>
  obtain ⟨k,rfl,hk1,hk2,rfl,HQ,rfl⟩:=hrel;have hsl:=HSL.out k hk2;have HI1:=Hh (fun W => HI.out (s.drop k) W)
  rcases idx_split 39 (s.drop k) with ⟨e1,e2⟩ | ⟨p,r,e1,e2,e3⟩
  ·rw [e1] at HI1
   have HE:=Hh (quo_none HQ.out e2);clear e1 e2 HQ HI;go_wp2_with fail;refine (HI1.out _).mono ?_;rintro e w ⟨rfl,rfl⟩;go_wp2;go_ret;exact ⟨by rw [HE.out];rfl,rfl⟩
  ·rw [e3] at HI1
   obtain ⟨q1,q2,q3,q4⟩:=quo_split HQ.out hk2 e1 e2;obtain ⟨m,hm⟩:∃ m,p.length = m:=⟨_,rfl⟩;rw [hm] at HI1 q1 q2 q3 q4;have HP1:=Hh (fun W => HP.out r W);simp only [pre_beg] at HP1;have hsl2:=HSL.out (k + m + 1) q2;rw [q1] at hsl2
   push_cast at hsl2
   have ew:((k:Int) + ((m:Int) + 1)) = (k:Int) + m + 1:=by omega
   clear e1 e2 e3 hm HQ HI HP q1
   cases hb:begB r [39] with
   | true =>
    obtain ⟨q5,q6⟩:=q4 hb;have H5:=Hh q5;rw [hb] at HP1;clear q3 q4 q5 hb;go_wp2_with fail;refine (HI1.out _).mono ?_;rintro e w ⟨rfl,rfl⟩;go_wp2_with fail;refine (HP1.out _).mono ?_;rintro e w ⟨rfl,rfl⟩;go_wp2;go_roundg (s.length - (k + m + 1 + 1))
    case rel => exact ⟨k + m + 1 + 1,by first | rfl | (push_cast;rfl) | go_num,by omega,q6,rfl,H5,rfl⟩
    case measure => omega
   | false =>
    have HE:=Hh (q3 hb);rw [hb] at HP1;clear q3 q4 hb;go_wp2_with fail;refine (HI1.out _).mono ?_;rintro e w ⟨rfl,rfl⟩;go_wp2_with fail;refine (HP1.out _).mono ?_;rintro e w ⟨rfl,rfl⟩;go_wp2;go_ret;exact ⟨by rw [HE.out];first | rfl | (push_cast;rfl),rfl⟩
open Go.RowKit Go.Lib
def LaidN (w:World):Prop:=Num.Laid w ∧ Quo.Laid w
theorem LaidN.grow {w w':World} (h:LaidN w) (hg:Grow w w'):LaidN w':=⟨h.1.grow hg,h.2.grow hg⟩
def LaidG (g:Nat) (w:World):Prop:=∃ w0,LaidN w0 ∧ w0.heap.size ≤ g ∧ Grow w0 w
theorem LaidG.now {g:Nat} {w:World} (h:LaidG g w):LaidN w:=by obtain ⟨w0,h1,h2,h3⟩:=h;exact h1.grow h3
theorem LaidG.below {g:Nat} {w w':World} (h:LaidG g w) (hb:Below g w w'):LaidG g w':=by obtain ⟨w0,h1,h2,h3⟩:=h;exact ⟨w0,h1,h2,Below.trans h3 (Below.mono hb h2)⟩
theorem below_kept {g:Nat} {w w':World} (h:Kept (fun k => k = g) w w') (hg:g ≤ w.heap.size):Below g w w':=⟨h.os,h.tape,h.output,h.size,fun k hk => h.block k (by omega) (by omega)⟩
theorem AtR.lt {g:Nat} {v:Value} {s:List UInt8} {w:World} (h:AtR g v s w):g < w.heap.size:=Boxed.lt h
theorem LaidG.step {g:Nat} {w w':World} (h:LaidG g w) (hk:Kept (fun k => k = g) w w') (hg:g ≤ w.heap.size):LaidG g w':=h.below (below_kept hk hg)
def NumP (g:Nat) (v:Value) (o:Option (List (Int × Int) × List UInt8)) (w:World) (e:Ending) (w':World):Prop :=
 match o with
 | none => (∃ x,e = .returned (.tuple #[x,.bool false])) ∧ Kept (fun k => k = g) w w'
 | some p => ∃ A c,e = .returned (.tuple #[.slice A p.1.length c,.bool true]) ∧ Decs w' w'.heap.size A p.1 ∧ Step g v p.2 w w'
theorem numsP_none {s:List UInt8} (h:Num.readO (s.take (numS s)) = none):numsP s = none:=by unfold numsP;rw [h];rfl
theorem numsP_some {s:List UInt8} {ds:List (Int × Int)} (h:Num.readO (s.take (numS s)) = some (ds,[])):numsP s = some (ds,s.drop (numS s)):=by unfold numsP;rw [h,Option.bind_some];rfl
theorem numsP_more {s r:List UInt8} {ds:List (Int × Int)} (h:Num.readO (s.take (numS s)) = some (ds,r)) (hr:r ≠ []):numsP s = none:=by unfold numsP;rw [h,Option.bind_some,if_neg hr]
theorem pnumbers_any (g:Nat) (v:Value) (s:List UInt8) (w:World) (h:AtR g v s w) (hl:s.length ≤ 100000) (hL:LaidG g w) :
  Calls Tryz.prog 51 #[.pointer (some ⟨g,0,none⟩)] w (NumP g v (numsP s) w):=by
 have HAT:=Hh h;have HL:=Hh hL;have HT:Hid (∀ W,Quo.Laid W → Calls Tryz.prog 95 #[.string ⟨s.toArray⟩,.string ⟨#[48,49,50,51,52,53,54,55,56,57,69,194,175,32]⟩] W fun e w' => e = .returned (.string ⟨(s.drop (numS s)).toArray⟩) ∧ Grow W w'):=Hh (fun W hW => Quo.trimleft_any s W hW);obtain ⟨k,hk⟩:∃ k,numS s = k:=⟨_,rfl⟩;have HK:=Hh hk;have hkl:k ≤ s.length:=by rw [← hk];exact numS_le s
 rw [hk] at HT;have HCUT:=Hh (fun W hW => cut_any' g v s k W hW hkl);have HRD:=Hh (fun W hW => Num.read_any (s.take k) (by rw [List.length_take];omega) W hW)
 have hsz1:(⟨s.toArray⟩:ByteArray).size = s.length:=by simp [ByteArray.size]
 have hsz2:(⟨(s.drop k).toArray⟩:ByteArray).size = s.length - k:=by simp [ByteArray.size]
 have HC1:=Hh (fun W (hg:Grow w W) => Boxed.snd (h.grow hg));obtain ⟨S,hS⟩:∃ S,(⟨s.toArray⟩:ByteArray) = S:=⟨_,rfl⟩;obtain ⟨T,hT⟩:∃ T,(⟨(s.drop k).toArray⟩:ByteArray) = T:=⟨_,rfl⟩;obtain ⟨Z,hZ⟩:∃ Z,(⟨(s.take k).toArray⟩:ByteArray) = Z:=⟨_,rfl⟩;rw [hS] at hsz1 HC1 HT;rw [hT] at hsz2 HT;rw [hZ] at HCUT HRD;have hsub:((s.length:Nat):Int) - ((s.length - k:Nat):Int) = (k:Int):=by omega
 have hwr:IntKind.i64.wrap (((s.length:Nat):Int) - ((s.length - k:Nat):Int)) = (k:Int):=by rw [hsub,IntKind.wrap_i64];omega
 clear h hL hS hT hZ hk
 go_enter Tryz.func51,Tryz.ntmps51
 go_wp2;refine wp_region_R Grow (n:=13) rfl (by kernel_rfl) ?_
 intro W0 hW0e hW0;have hG0:Grow w W0:=hW0;have hd1:∀ wg,Grow W0 wg → wg.cell? ⟨g,1,none⟩ = some (.string S):=fun wg h => HC1.out wg (hG0.trans h);clear hW0e;refine wpR_take growOrd (i:=0) (v:=?vf1) rfl (by kernel_rfl) (by kernel_rfl) (by kernel_rfl) (fun _ _ _ h => h) (by rfl) ?hf1 ?rf1
 case hf1 => (intro wg hSw;go_simp <;> with_reducible rfl)
 simp only [Act.put,List.setIfInBounds_toArray,List.set_cons_zero,List.set_cons_succ];refine wpR_take growOrd (i:=1) (v:=?vf2) rfl (by kernel_rfl) (by kernel_rfl) (by kernel_rfl) (fun _ _ _ h => h) (by rfl) ?hf2 ?rf2
 case hf2 => (intro wg hSw;go_simp <;> with_reducible rfl)
 simp only [Act.put,List.setIfInBounds_toArray,List.set_cons_zero,List.set_cons_succ];refine wpR_take growOrd (i:=2) (v:=?vf3) rfl (by kernel_rfl) (by kernel_rfl) (by kernel_rfl) (fun _ _ _ h => h) (by rfl) ?hf3 ?rf3
 case hf3 => (intro wg hSw;go_simp <;> with_reducible rfl)
 simp only [Act.put,List.setIfInBounds_toArray,List.set_cons_zero,List.set_cons_succ];refine wpR_take growOrd (i:=3) (v:=?vf4) rfl (by kernel_rfl) (by kernel_rfl) (by kernel_rfl) (fun _ _ _ h => h) (by rfl) ?hf4 ?rf4
 case hf4 => (intro wg hSw;go_simp <;> with_reducible rfl)
 simp only [Act.put,List.setIfInBounds_toArray,List.set_cons_zero,List.set_cons_succ];refine wpR_take growOrd (i:=4) (v:=?vf5) rfl (by kernel_rfl) (by kernel_rfl) (by kernel_rfl) (fun _ _ _ h => h) (by rfl) ?hf5 ?rf5
 case hf5 => (intro wg hSw;go_simp <;> with_reducible rfl)
 simp only [Act.put,List.setIfInBounds_toArray,List.set_cons_zero,List.set_cons_succ];refine wpR_take growOrd (i:=5) (v:=?vf6) rfl (by kernel_rfl) (by kernel_rfl) (by kernel_rfl) (fun _ _ _ h => h) (by rfl) ?hf6 ?rf6
 case hf6 => (intro wg hSw;go_simp <;> with_reducible rfl)
 simp only [Act.put,List.setIfInBounds_toArray,List.set_cons_zero,List.set_cons_succ];refine wpR_take growOrd (i:=6) (v:=?vf7) rfl (by kernel_rfl) (by kernel_rfl) (by kernel_rfl) (fun _ _ _ h => h) (by rfl) ?hf7 ?rf7
 case hf7 => (intro wg hSw;go_simp <;> with_reducible rfl)
 simp only [Act.put,List.setIfInBounds_toArray,List.set_cons_zero,List.set_cons_succ];refine wpR_take growOrd (i:=7) (v:=?vf8) rfl (by kernel_rfl) (by kernel_rfl) (by kernel_rfl) (fun _ _ _ h => h) (by rfl) ?hf8 ?rf8
 case hf8 => (intro wg hSw;go_simp <;> with_reducible rfl)
 simp only [Act.put,List.setIfInBounds_toArray,List.set_cons_zero,List.set_cons_succ];refine wpR_take growOrd (i:=8) (v:=?vf9) rfl (by kernel_rfl) (by kernel_rfl) (by kernel_rfl) (fun _ _ _ h => h) (by rfl) ?hf9 ?rf9
 case hf9 => (intro wg hSw;go_simp <;> with_reducible rfl)
 simp only [Act.put,List.setIfInBounds_toArray,List.set_cons_zero,List.set_cons_succ];refine wpR_one (i:=9) (by kernel_rfl) ?_
 refine wpR_op (i:=9) rfl (by rfl) (fun K hK => ?_)
 go_simp;refine (HT.out W0 (HL.out.now.2.grow (hG0.trans (Grow.refl W0)))).mono ?_;rintro x wM9 ⟨rfl,hM9⟩;refine hK.out _ _ hM9 ?_;clear hK K
 try simp only [Act.put,List.setIfInBounds_toArray,List.set_cons_zero,List.set_cons_succ]
 refine wpR_take growOrd (i:=10) (v:=?vf10) rfl (by kernel_rfl) (by kernel_rfl) (by kernel_rfl) (fun _ _ _ h => h) (by rfl) ?hf10 ?rf10
 case hf10 => (intro wg hSw;go_simp <;> with_reducible rfl)
 simp only [Act.put,List.setIfInBounds_toArray,List.set_cons_zero,List.set_cons_succ];refine wpR_take growOrd (i:=11) (v:=?vf11) rfl (by kernel_rfl) (by kernel_rfl) (by kernel_rfl) (fun _ _ _ h => h) (by rfl) ?hf11 ?rf11
 case hf11 => (intro wg hSw;go_simp <;> with_reducible rfl)
 simp only [Act.put,List.setIfInBounds_toArray,List.set_cons_zero,List.set_cons_succ];refine wpR_take growOrd (i:=12) (v:=?vf12) rfl (by kernel_rfl) (by kernel_rfl) (by kernel_rfl) (fun _ _ _ h => h) (by rfl) ?hf12 ?rf12
 case hf12 => (intro wg hSw;go_simp <;> with_reducible rfl)
 simp only [Act.put,List.setIfInBounds_toArray,List.set_cons_zero,List.set_cons_succ];refine wpR_done (by kernel_rfl) ?_
 have HG1:=Hh (hG0.trans (Grow.trans (Grow.refl W0) hM9));generalize wM9 = w5 at *;go_wp2_with fail;refine (HCUT.out _ (HAT.out.grow HG1.out)).mono ?_;rintro x w6 ⟨rfl,hst⟩;have HST:=Hh (hst.after (Kept.of_grow HG1.out));have HL6:=Hh (HL.out.step HST.out.2 (Nat.le_of_lt (AtR.lt HAT.out)));clear hst;go_wp2_with fail;refine (HRD.out _ HL6.out.now.1).mono ?_;rintro x w7 ⟨A,c,rfl,_,hds,hg7⟩;have HST7:=Hh (HST.out.grow hg7);have HDS:=Hh hds;have HN:=Hh (fun h => numsP_none (s:=s) h);have HS:=Hh (fun ds h => numsP_some (s:=s) (ds:=ds) h);have HM:=Hh (fun ds r h hr => numsP_more (s:=s) (ds:=ds) (r:=r) h hr);rw [HK.out] at HN HS HM;clear hds hg7 HST HL6 HL HAT HT HC1 HCUT HRD
 cases hr:Num.readO (s.take k) with
 | none =>
  have HV:=Hh (HN.out hr);rw [hr] at HDS;simp only [Num.mkL] at HDS ⊢;clear hr HN HS HM HDS;go_wp2;go_ret2;rw [HV.out];exact ⟨⟨_,rfl⟩,HST7.out.2⟩
 | some p =>
  obtain ⟨ds,r⟩:=p;have hr2:=hr;rw [hr] at HDS;simp only [Num.mkL] at HDS ⊢
  cases r with
  | nil =>
   have HV:=Hh (HS.out ds hr);clear hr hr2 HN HS HM;go_wp2;go_ret2;rw [HV.out];exact ⟨A,c,rfl,HDS.out,HST7.out⟩
  | cons b t =>
   have HV:=Hh (HM.out ds (b :: t) hr (by simp))
   clear hr hr2 HN HS HM HDS;go_wp2;go_ret2;rw [HV.out];exact ⟨⟨_,rfl⟩,HST7.out.2⟩
end Go.Proofs.YteoogioanjkacaaGreatDoor
namespace Go.Proofs.YteoogioanjkacaaGreatDoor.Quo
open Go.RowKit Go.Lib
def Full (w:World) (v:Value) (q:List UInt8):Prop:=∃ g,v = .slice (some ⟨g,0,none⟩) q.length q.length ∧ g < w.heap.size ∧ ∀ j u,(Go.Lib.byteCells q)[j]? = some u → w.cell? ⟨g,j,none⟩ = some u
theorem Full.grow {w w':World} {v:Value} {q:List UInt8} (h:Full w v q) (hg:Grow w w'):Full w' v q:=by
 obtain ⟨g,e,hl,hc⟩:=h;exact ⟨g,e,Nat.lt_of_lt_of_le hl hg.size,fun j u hj => (hg.cell (p:=⟨g,j,none⟩) hl).trans (hc j u hj)⟩
theorem bytes_len (q:List UInt8):(Go.Lib.byteCells q).length = q.length * 1:=by simp [Go.Lib.byteCells]
theorem full_conv {w:World} {v:Value} {q:List UInt8} (h:Full w v q):(convert 57 9 v).run Tryz.prog w = .ok (.string ⟨q.toArray⟩) w:=by
 obtain ⟨g,rfl,hl,hc⟩:=h;refine run_convert_bytes_back (P:=Tryz.prog) w 57 9 5 ⟨g,0,none⟩ q.length q (by kernel_rfl) (by kernel_rfl) (by kernel_rfl) (fun j hj => ?_)
 rw [Addr.add_lit,Nat.zero_add,hc j (.int .u8 (q[j].toNat)) (by simp [Go.Lib.byteCells,hj])]
theorem own_base {w:World} {B B':Nat} {e:TypeId} {size n:Nat} {v:Value} {xs:List Value} (h:w.ownsRow B e size v n xs) (hb:B' ≤ B):w.ownsRow B' e size v n xs :=
 ⟨h.1,by
  rcases h.2 with h0 | ⟨g,cap,cur,hv,hbg,rest⟩
  ·exact .inl h0
  ·exact .inr ⟨g,cap,cur,hv,Nat.le_trans hb hbg,rest⟩⟩
theorem wpList_append_full {ops:Array Oper} {rest:List Oper} {o:Oper} {a:Act} {w:World} {Q:Exit → Act → World → Prop} (hgd:o.guard = none) (s x:Operand)
  (ho:o.op = .call { callee:=.builtin .append,args:=#[s,x],argTypes:=#[57,57] }) (B:Nat) (v:Value) (q:List UInt8) (m:Nat) (p:List Value)
  (hs:a.eval s = v) (hf:Full w v q) (hx:a.eval x = .slice (some ⟨w.heap.size,0,none⟩) m m) (hm:p.length = m) (h0:0 < m) (hq:q.length ≤ 1000000) (hm4:m ≤ 4) (hB:B ≤ w.heap.size)
  (h:∀ v' w',w'.ownsRow B 5 1 v' (q.length + m) (Go.Lib.byteCells q ++ p) → Below B w w' → wpList Tryz.prog ops Q rest (a.put o.dst v') w'):wpList Tryz.prog ops Q (o :: rest) a (w.alloc (.cells p.toArray 5)):=by
 obtain ⟨i0,hi,hz0,hz1,hz2⟩:=info_of info5;have hf1:=hf.grow (grow_new w (.cells p.toArray 5));obtain ⟨g,rfl,hl,hc⟩:=hf1;obtain ⟨v',w',hr,h2,h3⟩:=run_append_arg_grows (P:=Tryz.prog) (w.alloc (.cells p.toArray 5)) 57 o.type 5 i0 (.int .u8 0) 1 1 Tryz.underlying57 hi hz0 hz1 hz2 rfl (by decide) ⟨g,0,none⟩ q.length q.length (Go.Lib.byteCells q) (bytes_len q)
  (fun j u hj => by rw [Addr.add_lit,Nat.zero_add];exact hc j u hj) ⟨w.heap.size,0,none⟩ m m p (by omega) (fun j u hj => by rw [Addr.add_lit,World.cell?_alloc_new];simpa using hj) (by omega) (by unfold maxLen;omega) (by omega)
 refine wpList_plain hgd fun K hK => ?_;have hg2:Grow (w.alloc (.cells p.toArray 5)) w':=(Below.refl _ _).grown h3 (Nat.le_refl _) (fun k hk => by cases hk)
 have hw:=h v' w' (own_base h2 (by simp;omega)) (Below.mono ((grow_new w _).trans hg2) hB)
 unfold Oper.wp;simp [execOp,ho,resolve,invoke,builtin,hs,hx,hr,Result.andThen];exact hK _ _ hw
theorem wpList_append_full_text {ops:Array Oper} {rest:List Oper} {o:Oper} {a:Act} {w:World} {Q:Exit → Act → World → Prop} (hgd:o.guard = none) (s x:Operand)
  (ho:o.op = .call { callee:=.builtin .append,args:=#[s,x],argTypes:=#[57,9] }) (B:Nat) (v:Value) (q p:List UInt8)
  (hs:a.eval s = v) (hf:Full w v q) (hx:a.eval x = .string ⟨p.toArray⟩) (h0:0 < p.length) (hq:q.length ≤ 1000000) (hm4:p.length ≤ 4) (hB:B ≤ w.heap.size)
  (h:∀ v' w',Own B v' (q ++ p) w' → Below B w w' → wpList Tryz.prog ops Q rest (a.put o.dst v') w'):wpList Tryz.prog ops Q (o :: rest) a w:=by
 obtain ⟨i0,hi,hz0,hz1,hz2⟩:=info_of info5;obtain ⟨g,rfl,hl,hc⟩:=hf;have hsz:(⟨p.toArray⟩:ByteArray).size = p.length:=str_size p;have hr:=run_append_grow_string (P:=Tryz.prog) (w:=w) 57 9 o.type 5 i0 (.int .u8 0) Tryz.underlying57 Tryz.underlying9 hi hz0 ⟨g,0,none⟩ q.length q.length (Go.Lib.byteCells q) (by rw [hz1,bytes_len])
  (fun j u hj => by rw [Addr.add_lit,Nat.zero_add];exact hc j u hj) ⟨p.toArray⟩ (by omega) (by omega) (growslice_fits (by omega) (by rw [hz2];omega))
 have hge:=grownCap_ge w (q.length + (⟨p.toArray⟩:ByteArray).size) q.length 5;have hcm:=grownCap_le_maxLen w (q.length + (⟨p.toArray⟩:ByteArray).size) q.length 5 (by unfold maxLen;omega)
 refine wpList_plain hgd fun K hK => ?_;have hown:Own B (.slice (some ⟨w.heap.size,0,none⟩) (q.length + (⟨p.toArray⟩:ByteArray).size) (grownCap w (q.length + (⟨p.toArray⟩:ByteArray).size) q.length 5)) (q ++ p)
   (w.drew.alloc (.cells ((Go.Lib.byteCells q).toArray ++ (strCells ⟨p.toArray⟩).toArray ++ Builtin.zeroCells (Value.int .u8 0).cells (grownCap w (q.length + (⟨p.toArray⟩:ByteArray).size) q.length 5 - (q.length + (⟨p.toArray⟩:ByteArray).size))) 5)):=by
  unfold Own;rw [show (q ++ p).length = q.length + (⟨p.toArray⟩:ByteArray).size by rw [List.length_append,hsz]]
  refine ⟨by rw [bytes_len,List.length_append,hsz],.inr ⟨w.heap.size,_,_,rfl,hB,heap_alloc_new w.drew _,hge,hcm,?_,?_⟩⟩
  ·have hz1:(Value.int IntKind.u8 0).cells.size = 1:=rfl
   simp only [Array.size_append,List.size_toArray,size_zeroCells,hz1,strCells_length];rw [bytes_len];omega
  ·rw [cells_app,← cells_str p]
   simp only [Array.toList_append,List.append_assoc];rw [← List.append_assoc];have:(Go.Lib.byteCells q ++ strCells ⟨p.toArray⟩).length = (q.length + (⟨p.toArray⟩:ByteArray).size) * 1:=by rw [List.length_append,bytes_len,strCells_length];omega
   rw [← this];exact List.take_left
 obtain ⟨v',w',hr',ho',hg'⟩:∃ v' w',(Builtin.append_ #[57,9] o.type #[.slice (some ⟨g,0,none⟩) q.length q.length,.string ⟨p.toArray⟩]).run Tryz.prog w = .ok v' w' ∧ Own B v' (q ++ p) w' ∧ Grow w w' :=
  ⟨_,_,hr,hown,Grow.of_drew (grow_new w.drew _)⟩
 have hw:=h v' w' ho' (Below.mono hg' hB);clear hr hown;unfold Oper.wp;simp [execOp,ho,resolve,invoke,builtin,hs,hx,hr',Result.andThen];exact hK _ _ hw
def Laid2 (B:Nat) (q:List UInt8) (p:List Value) (w:World) (e:Ending) (w':World):Prop:=∃ v',e = .returned v' ∧ w'.ownsRow B 5 1 v' (q.length + p.length) (Go.Lib.byteCells q ++ p) ∧ Below B w w'
theorem full_one (B:Nat) (v:Value) (q:List UInt8) (r:Int) (h0:0 ≤ r) (h1:r ≤ 127) (w:World) (hf:Full w v q) (hq:q.length ≤ 1000000) (hB:B ≤ w.heap.size) :
  Calls Tryz.prog 81 #[v,.int .i32 r] w (Laid2 B q [.int .u8 r] w):=by
 have HF:=Hh hf;clear hf
 go_enter Tryz.func81,Tryz.ntmps81
 go_wp2_with (at_builtin;refine wpList_append_full rfl _ _ rfl B v q 1 [.int .u8 r] rfl HF.out rfl rfl (by decide) hq (by decide) hB ?_;intro v' w2 hown' hgrow)
 go_wp2;go_ret;exact ⟨_,rfl,hown',hgrow⟩
theorem full_two (B:Nat) (v:Value) (q:List UInt8) (r:Int) (h0:128 ≤ r) (h1:r ≤ 2047) (w:World) (hf:Full w v q) (hq:q.length ≤ 1000000) (hB:B ≤ w.heap.size) :
  Calls Tryz.prog 116 #[v,.int .i32 r] w (Laid2 B q [.int .u8 (192 + r / 64),.int .u8 (128 + r % 64)] w):=by
 have HF:=Hh hf;clear hf
 go_enter Tryz.func116,Tryz.ntmps116
 go_wp2_with (at_builtin;refine wpList_append_full rfl _ _ rfl B v q 2 [.int .u8 (192 + r / 64),.int .u8 (128 + r % 64)] rfl HF.out rfl rfl (by decide) hq (by decide) hB ?_;intro v' w2 hown' hgrow)
 go_wp2;go_ret;exact ⟨_,rfl,hown',hgrow⟩
theorem full_three_lo (B:Nat) (v:Value) (q:List UInt8) (r:Int) (h0:2048 ≤ r) (h1:r < 55296) (w:World) (hf:Full w v q) (hq:q.length ≤ 1000000) (hB:B ≤ w.heap.size) :
  Calls Tryz.prog 116 #[v,.int .i32 r] w (Laid2 B q [.int .u8 (224 + r / 4096),.int .u8 (128 + r / 64 % 64),.int .u8 (128 + r % 64)] w):=by
 have HF:=Hh hf;clear hf
 go_enter Tryz.func116,Tryz.ntmps116
 go_wp2_with (at_builtin;refine wpList_append_full rfl _ _ rfl B v q 3 [.int .u8 (224 + r / 4096),.int .u8 (128 + r / 64 % 64),.int .u8 (128 + r % 64)] rfl HF.out rfl rfl (by decide) hq (by decide) hB ?_;intro v' w2 hown' hgrow)
 go_wp2;go_ret;exact ⟨_,rfl,hown',hgrow⟩
theorem full_three_hi (B:Nat) (v:Value) (q:List UInt8) (r:Int) (h0:57343 < r) (h1:r ≤ 65535) (w:World) (hf:Full w v q) (hq:q.length ≤ 1000000) (hB:B ≤ w.heap.size) :
  Calls Tryz.prog 116 #[v,.int .i32 r] w (Laid2 B q [.int .u8 (224 + r / 4096),.int .u8 (128 + r / 64 % 64),.int .u8 (128 + r % 64)] w):=by
 have HF:=Hh hf;clear hf
 go_enter Tryz.func116,Tryz.ntmps116
 go_wp2_with (at_builtin;refine wpList_append_full rfl _ _ rfl B v q 3 [.int .u8 (224 + r / 4096),.int .u8 (128 + r / 64 % 64),.int .u8 (128 + r % 64)] rfl HF.out rfl rfl (by decide) hq (by decide) hB ?_;intro v' w2 hown' hgrow)
 go_wp2;go_ret;exact ⟨_,rfl,hown',hgrow⟩
theorem full_four (B:Nat) (v:Value) (q:List UInt8) (r:Int) (h0:65536 ≤ r) (h1:r ≤ 1114111) (w:World) (hf:Full w v q) (hq:q.length ≤ 1000000) (hB:B ≤ w.heap.size) :
  Calls Tryz.prog 116 #[v,.int .i32 r] w (Laid2 B q [.int .u8 (240 + r / 262144),.int .u8 (128 + r / 4096 % 64),.int .u8 (128 + r / 64 % 64),.int .u8 (128 + r % 64)] w):=by
 have HF:=Hh hf;clear hf
 go_enter Tryz.func116,Tryz.ntmps116
 go_wp2_with (at_builtin;refine wpList_append_full rfl _ _ rfl B v q 4 [.int .u8 (240 + r / 262144),.int .u8 (128 + r / 4096 % 64),.int .u8 (128 + r / 64 % 64),.int .u8 (128 + r % 64)] rfl HF.out rfl rfl (by decide) hq (by decide) hB ?_;intro v' w2 hown' hgrow)
 go_wp2;go_ret;exact ⟨_,rfl,hown',hgrow⟩
theorem full_non (B:Nat) (v:Value) (q:List UInt8) (c:Nat) (hc:isSign c = true) (h:128 ≤ c) (w:World) (hf:Full w v q) (hq:q.length ≤ 1000000) (hB:B ≤ w.heap.size) :
  Calls Tryz.prog 116 #[v,.int .i32 (c:Int)] w (Laid2 B q (Lib.runeCells (c:Int)) w):=by
 have hs:=isSign_iff.1 hc
 by_cases c1:c ≤ 2047
 ·rw [show Lib.runeCells (c:Int) = [.int .u8 (192 + (c:Int) / 64),.int .u8 (128 + (c:Int) % 64)] by simp [Lib.runeCells,Lib.encodeRuneZ_two (r:=(c:Int)) (by omega) (by omega)]]
  exact full_two B v q c (by omega) (by omega) w hf hq hB
 by_cases c2:c < 55296
 ·rw [show Lib.runeCells (c:Int) = [.int .u8 (224 + (c:Int) / 4096),.int .u8 (128 + (c:Int) / 64 % 64),.int .u8 (128 + (c:Int) % 64)] by simp [Lib.runeCells,Lib.encodeRuneZ_three (r:=(c:Int)) (Or.inl ⟨by omega,by omega⟩)]]
  exact full_three_lo B v q c (by omega) (by omega) w hf hq hB
 by_cases c4:c ≤ 65535
 ·rw [show Lib.runeCells (c:Int) = [.int .u8 (224 + (c:Int) / 4096),.int .u8 (128 + (c:Int) / 64 % 64),.int .u8 (128 + (c:Int) % 64)] by simp [Lib.runeCells,Lib.encodeRuneZ_three (r:=(c:Int)) (Or.inr ⟨by omega,by omega⟩)]]
  exact full_three_hi B v q c (by omega) (by omega) w hf hq hB
 ·rw [show Lib.runeCells (c:Int) = [.int .u8 (240 + (c:Int) / 262144),.int .u8 (128 + (c:Int) / 4096 % 64),.int .u8 (128 + (c:Int) / 64 % 64),.int .u8 (128 + (c:Int) % 64)] by simp [Lib.runeCells,Lib.encodeRuneZ_four (r:=(c:Int)) (by omega) (by omega)]]
  exact full_four B v q c (by omega) (by omega) w hf hq hB
theorem full_rune (B:Nat) (v:Value) (q:List UInt8) (c:Nat) (w:World) (hc:isSign c = true) (hq:q.length ≤ 1000000) (hf:Full w v q) (hB:B ≤ w.heap.size) :
  Calls Tryz.prog 81 #[v,.int .i32 (c:Int)] w (Laid1 B (q ++ bytesD c) w):=by
 have hs:=isSign_iff.1 hc;have HR:=Hh (rune_cells hc);have hfin:∀ e w',Laid2 B q (Lib.runeCells (c:Int)) w e w' → Laid1 B (q ++ bytesD c) w e w':=by
  rintro e w' ⟨v',rfl,h1,h2⟩;refine ⟨v',rfl,?_,h2⟩;unfold Own;rw [List.length_append,cells_app];rw [HR.out,Go.Lib.byteCells_length] at h1;exact h1
 by_cases h1:c < 128
 ·refine (show Calls Tryz.prog 81 #[v,.int .i32 (c:Int)] w (Laid2 B q (Lib.runeCells (c:Int)) w) from ?_).mono hfin
  rw [show Lib.runeCells (c:Int) = [.int .u8 (c:Int)] by simp [Lib.runeCells,Lib.encodeRuneZ_one (r:=(c:Int)) (by omega) (by omega)]]
  exact full_one B v q c (by omega) (by omega) w hf hq hB
 ·refine (show Calls Tryz.prog 81 #[v,.int .i32 (c:Int)] w (Laid2 B q (Lib.runeCells (c:Int)) w) from ?_).mono hfin
  have HN:=Hh (full_non B v q c hc (by omega) w hf hq hB)
  have h1':¬ ((c:Nat):Int) ≤ 127:=by omega
  have hw:IntKind.u32.wrap ((c:Nat):Int) = ((c:Nat):Int):=by rw [IntKind.wrap_u32];omega
  clear hfin HR hf;generalize Lib.runeCells (c:Int) = p at *
  go_enter Tryz.func81,Tryz.ntmps81
  go_wp2_with fail;refine (HN.out).mono ?_;rintro e w1 ⟨v1,rfl,ho,hb⟩;have HO1:=Hh ho;have HB1:=Hh hb;clear ho hb;go_wp2;go_ret;exact ⟨_,rfl,HO1.out,HB1.out⟩
theorem append_full (B:Nat) (v:Value) (q:List UInt8) (c:Nat) (w:World) (hc:isSign c = true) (hq:q.length ≤ 1000000) (hf:Full w v q) (hB:B ≤ w.heap.size) :
  Calls Tryz.prog 40 #[v,.int .i32 c] w (Laid1 B (q ++ qC c) w):=by
 have HO:=Hh hf;have henc:(Utf8.encode (c:Int)).toList = bytesD c:=by rw [enc_bytes hc,Lib.toList_data]
 by_cases h39:c = 39
 ·have ht:((Utf8.encode (c:Int)).toList == [39]) = true:=by rw [henc,h39];rfl
  rw [show qC c = [39,39] by rw [h39];rfl]
  clear hf hc henc h39
  go_enter Tryz.func40,Tryz.ntmps40
  go_wp2_with (at_builtin;refine wpList_append_full_text rfl _ _ rfl B v q [39,39] rfl HO.out rfl (by decide) hq (by decide) hB ?_;intro v1 w1 ho1 hb1)
  go_ret;exact ⟨_,rfl,ho1,hb1⟩
 ·have HR:=Hh (full_rune B v q c w hc hq hf hB)
  rw [qC_other h39];have ht:((Utf8.encode (c:Int)).toList == [39]) = false:=by
   rw [beq_eq_false_iff_ne,henc];intro e1;have hn:=next_bytes hc [];rw [e1,List.append_nil,next_one (by decide)] at hn
   exact h39 (Prod.mk.inj hn).1.symm
  clear hf hc h39 henc
  go_enter Tryz.func40,Tryz.ntmps40
  go_wp2_with fail;refine (HR.out).mono ?_;rintro e w1 ⟨v1,rfl,ho,hb⟩;have HO1:=Hh ho;have HB1:=Hh hb;clear ho hb;go_wp2;go_ret;exact ⟨_,rfl,HO1.out,HB1.out⟩
def OwnM (B:Nat) (v:Value) (q:List UInt8) (w:World):Prop:=Own B v q w ∨ Full w v q
theorem OwnM.conv {B:Nat} {v:Value} {q:List UInt8} {w:World} (h:OwnM B v q w):(convert 57 9 v).run Tryz.prog w = .ok (.string ⟨q.toArray⟩) w:=h.elim conv_own full_conv
theorem append_both (B:Nat) (v:Value) (q:List UInt8) (c:Nat) (w:World) (hc:isSign c = true) (hq:q.length ≤ 1000000) (h:OwnM B v q w) (hB:B ≤ w.heap.size) :
  Calls Tryz.prog 40 #[v,.int .i32 c] w (Laid1 B (q ++ qC c) w) :=
 h.elim (fun h => append_any B v q c w hc hq h hB) (fun h => append_full B v q c w hc hq h hB)
open Go.RowKit Go.Lib
def TextP (l:List UInt8) (ok:Bool) (w:World) (e:Ending) (w':World):Prop:=e = .returned (.tuple #[.string ⟨l.toArray⟩,.bool ok]) ∧ Grow w w'
theorem all_step {xs:List Int} {k:Nat} (hk:k < xs.length) (h:(xs.take k).all signZ = true) (h2:signZ (xs.getD k 0) = true):(xs.take (k + 1)).all signZ = true:=by
 have e:xs.getD k 0 = xs[k]:=by simp [List.getD,hk]
 rw [List.take_succ_eq_append_getElem hk,List.all_append,h,← e,List.all_cons,h2];rfl
theorem all_not {xs:List Int} {k:Nat} (hk:k < xs.length) (h2:signZ (xs.getD k 0) = false):xs.all signZ = false:=by
 have e:xs.getD k 0 = xs[k]:=by simp [List.getD,hk]
 rw [Bool.eq_false_iff];intro h;have:=List.all_eq_true.1 h xs[k] (List.getElem_mem hk);rw [← e,h2] at this
 cases this
theorem qT_step {xs:List Int} {k:Nat} (hk:k < xs.length):qT (natsZ (xs.take (k + 1))) = qT (natsZ (xs.take k)) ++ qC (xs.getD k 0).toNat:=by
 have e:xs.getD k 0 = xs[k]:=by simp [List.getD,hk]
 rw [List.take_succ_eq_append_getElem hk,nats_append,qT_append,e];show _ ++ (qC (xs[k]).toNat ++ []) = _;rw [List.append_nil]
theorem textQ_not {xs:List Int} (h:xs.all signZ = false):textQ xs = []:=by unfold textQ;rw [if_neg (by rw [h];simp)]
theorem textQ_all {xs:List Int} (h:xs.all signZ = true):textQ xs = 39 :: (qT (natsZ xs) ++ [39]):=by unfold textQ;rw [if_pos h];rfl
theorem nats_take (xs:List Int) (k:Nat):(natsZ (xs.take k)).length ≤ k:=by rw [nats_len,List.length_take];omega
theorem text_any (A:Option Addr) (n c:Nat) (xs:List Int) (w:World) (hn:xs.length = n) (hnb:n ≤ 100000) (hr:Nums .i64 w w.heap.size A xs) :
  Calls Tryz.prog 19 #[.slice A n c] w (TextP (textQ xs) (xs.all signZ) w):=by
 have HN:=Hh hn;have HR:=Hh hr;obtain ⟨B,hB⟩:∃ B,w.heap.size = B:=⟨_,rfl⟩;have HBE:=Hh hB;clear hn hr hB;have hcv:=Lib.run_convert_bytes_const (P:=Tryz.prog) w 57 5 #[.int .u8 39] 1 1 Tryz.underlying57 Tryz.underlying5;have HOW:Hid (OwnM B (.slice (some ⟨w.heap.size,0,none⟩) 1 1) [39] (w.alloc (.cells #[.int .u8 39] 5 (1,2)))) :=
  Hh (.inr ⟨w.heap.size,rfl,by simp,fun j u hj => by rw [cell_of_row _ w.heap.size j #[.int .u8 39] 5 (1,2) (heap_alloc_new w _)];simpa [Go.Lib.byteCells] using hj⟩)
 have HG0:=Hh (show Below B w (w.alloc (.cells #[.int .u8 39] 5 (1,2))) from Below.mono (grow_new w _) (by rw [HBE.out];exact Nat.le_refl _))
 go_enter Tryz.func19,Tryz.ntmps19
 go_wp2
 go_loopg [4,11] n (fun g s4 s11 wr => ∃ (k:Nat) (v:Value),k ≤ n ∧ g = n - k ∧ v = s4 ∧ s11 = .int .i64 k ∧ Hid ((xs.take k).all signZ = true) ∧ Hid (OwnM B v (39 :: qT (natsZ (xs.take k))) wr) ∧ Hid (Below B w wr))
 case atStart => exact ⟨0,_,Nat.zero_le _,rfl,rfl,rfl,Hh rfl,HOW,HG0⟩
 case round =>
  obtain ⟨k,v,hk,rfl,rfl,rfl,HS,HO,HG⟩:=hrel;have HGW:Hid (Grow w wr):=Hh (by unfold Grow;rw [HBE.out];exact HG.out)
  have HZ:Hid (B ≤ wr.heap.size):=Hh (by rw [← HBE.out];exact HG.out.size)
  clear HOW HG0
  by_cases hlt:k < n
  ·have hkl:k < xs.length:=by rw [HN.out];exact hlt
   obtain ⟨b,off,rfl,hb,hcl⟩:=(HR.out.below HGW.out) (by omega)
   have hck:=hcl k hkl;have HQ:=Hh (qT_step hkl);have HA:=Hh (all_step hkl HS.out);have HX:=Hh (all_not (xs:=xs) hkl);have hql:(39 :: qT (natsZ (xs.take k))).length ≤ 1000000:=by
    have h1:=qT_le (natsZ (xs.take k));have h2:=nats_take xs k;rw [List.length_cons];omega
   clear hcl;obtain ⟨x,hx⟩:∃ x,xs.getD k 0 = x:=⟨_,rfl⟩;rw [hx] at hck HQ HA HX;clear hx hkl;have HI:=Hh (fun W => issign_any x W)
   cases hs:signZ x with
   | false =>
    rw [hs] at HI;have HV:=Hh (HX.out hs);clear HX HA HQ hs hql;go_wp2_with fail;refine (HI.out _).mono ?_;rintro e w2 ⟨rfl,rfl⟩;go_wp2;go_ret2;exact ⟨by rw [textQ_not HV.out,HV.out];rfl,HGW.out⟩
   | true =>
    rw [hs] at HI;have hsx:=signZ_iff.1 hs;obtain ⟨y,rfl⟩:∃ y:Nat,x = (y:Int):=⟨x.toNat,by omega⟩
    rw [Int.toNat_natCast] at HQ;have hw:IntKind.i32.wrap ((y:Nat):Int) = ((y:Nat):Int):=by rw [IntKind.wrap_i32];omega
    have HP:=Hh (fun W (h:B ≤ W.heap.size) h2 => append_both B v (39 :: qT (natsZ (xs.take k))) y W (by have:=(signZ_nat hs).1;rwa [Int.toNat_natCast] at this) hql h2 h)
    have HA':=Hh (HA.out hs);have hwk:IntKind.i64.wrap (((k:Nat):Int) + 1) = ((k:Nat):Int) + 1:=by rw [IntKind.wrap_i64];omega
    clear HX HA hs hql hsx;go_wp2_with fail;refine (HI.out _).mono ?_;rintro e w2 ⟨rfl,rfl⟩;go_wp2_with fail;refine (HP.out _ HZ.out HO.out).mono ?_;rintro e w3 ⟨v3,rfl,ho,hb3⟩;have HO3:Hid (Own B v3 (39 :: qT (natsZ (xs.take (k + 1)))) w3):=Hh (by rw [HQ.out];exact ho)
    have HG3:=Hh (Below.trans HG.out hb3);clear ho hb3 HP HQ;go_wp2;go_roundg (n - (k + 1))
    case rel => exact ⟨k + 1,v3,by omega,rfl,rfl,by go_num,HA',Hh (.inl HO3.out),HG3⟩
    case measure => omega
  ·obtain rfl:k = n:=by omega
   have hall:xs.take k = xs:=List.take_of_length_le (by rw [HN.out];exact Nat.le_refl _)
   have HV:Hid (xs.all signZ = true):=Hh (by have:=HS.out;rwa [hall] at this)
   have HO1:Hid (OwnM B v (39 :: qT (natsZ xs)) wr):=Hh (by have:=HO.out;rwa [hall] at this)
   have hcv:=HO1.out.conv;have HC:Hid ((⟨(39 :: qT (natsZ xs)).toArray⟩:ByteArray) ++ ⟨#[39]⟩ = ⟨(39 :: (qT (natsZ xs) ++ [39])).toArray⟩):=Hh (str_app (39 :: qT (natsZ xs)) [39]);have hlq:(qT (natsZ xs)).length ≤ 400000:=by
    have h1:=qT_le (natsZ xs);rw [nats_len,HN.out] at h1;omega
   obtain ⟨q,hq⟩:∃ q,39 :: qT (natsZ xs) = q:=⟨_,rfl⟩;have hql:q.length ≤ 400001:=by rw [← hq,List.length_cons];omega
   have HQ:Hid (39 :: (qT (natsZ xs) ++ [39]) = q ++ [39]):=Hh (by rw [← hq];rfl)
   rw [hq] at hcv HC;rw [HQ.out] at HC;clear hq hall HS HO hlq;obtain ⟨s,hs⟩:∃ s:ByteArray,s = ⟨q.toArray⟩:=⟨_,rfl⟩;have hsz:s.size ≤ 400001:=by rw [hs,str_size];exact hql
   rw [← hs] at hcv HC;clear hs;go_wp2;go_ret2;exact ⟨by rw [textQ_all HV.out,HV.out,HQ.out,← HC.out];rfl,HGW.out⟩
end Go.Proofs.YteoogioanjkacaaGreatDoor.Quo
namespace Go.Proofs.YteoogioanjkacaaGreatDoor
open Go.RowKit Go.Lib
theorem built166:Go.Proofs.Lays.n166 Tryz.prog Tryz.lays156_ren:={ Tryz.lays156 with }
def Bld (B b:Nat) (q:List UInt8) (w:World):Prop:=IsBuilderF 59 5 B b (Go.Lib.byteCells q) w
theorem BuilderAtF.grow' {T e:TypeId} {B b:Nat} {p:Value} {bs:List Value} {w w':World} (h:BuilderAtF T e B b p bs w) (hg:Grow w w'):BuilderAtF T e B b p bs w':=by
 obtain ⟨hB,v,hb,ho,hn⟩:=h;exact ⟨hB,v,(hg.block b (heap_lt hb)).trans hb,ho.kept (row:=none) ⟨hg.os,hg.tape,hg.output,hg.size,fun k hk _ => hg.block k hk⟩ (by cases v.ownBlock <;> simp),hn⟩
theorem Bld.grow {B b:Nat} {q:List UInt8} {w w':World} (h:Bld B b q w) (hg:Grow w w'):Bld B b q w':=h.elim (fun x => .inl (BuilderAtF.grow' x hg)) (fun x => .inr (BuilderAtF.grow' x hg))
theorem write_any (B b:Nat) (q s:List UInt8) (w:World) (h:Bld B b q w) (hl:q.length + s.length ≤ 140737488355328) (hB:B ≤ w.heap.size) :
  Calls Tryz.prog 59 #[.pointer (some ⟨b,0,none⟩),.string ⟨s.toArray⟩] w fun e w' => (∃ x,e = .returned x) ∧ Bld B b (q ++ s) w' ∧ Below B w w' ∧ OthersKept 5 (some b) w w':=by
 refine (Any.Builder_WriteString_k built166 Tryz.Builder_Extra_156 B b (Go.Lib.byteCells q) ⟨s.toArray⟩ w h (by rw [Go.Lib.byteCells_length];simp [ByteArray.size];omega) hB).mono ?_
 rintro e w' ⟨rfl,h1,h2,h3⟩;refine ⟨⟨_,rfl⟩,.inr ?_,h2,h3⟩;have e1:Go.Lib.byteCells (q ++ s) = Go.Lib.byteCells q ++ strCells ⟨s.toArray⟩:=Quo.cells_app q s;rw [e1];exact h1
theorem build_any (B b:Nat) (q:List UInt8) (w:World) (h:Bld B b q w) (h0:q ≠ []) :
  Calls Tryz.prog 28 #[.pointer (some ⟨b,0,none⟩)] w fun e w' => e = .returned (.string ⟨q.toArray⟩) ∧ Below B w w':=by
 refine (Any.Builder_String_f Tryz.lays169 Tryz.Builder_Extra_169 B b q w h h0).mono ?_;rintro e w' ⟨rfl,_,h2⟩;exact ⟨rfl,h2⟩
theorem bld_new (w:World):Bld w.heap.size w.heap.size [] (w.alloc (.cells #[.pointer none,.slice none 0 0] 59)):=by
 exact IsBuilderF.of (.inl ⟨Nat.le_refl _,.slice none 0 0,heap_alloc_new w _,World.ownsRow_nil _ _ _ _,by simp [Value.ownBlock]⟩)
theorem box_others {b nb:Nat} {w w':World} {k:Int} {A1 A2 A3:Option Addr} {l1 c1 l2 c2 l3 c3:Nat} (h:OthersKept 5 (some b) w w') (hb:BoxN w nb k A1 l1 c1 A2 l2 c2 A3 l3 c3) (hn:nb ≠ b):BoxN w' nb k A1 l1 c1 A2 l2 c2 A3 l3 c3 :=
 h nb _ hb (fun e => hn (Option.some.inj e)) (fun _ _ e => by simp at e)
theorem pfront_any (nd:Nd) (A1:Option Addr) (l1 c1:Nat) (A2:Option Addr) (l2 c2:Nat) (A3:Option Addr) (l3 c3:Nat) (w:World) (h1:nd.shp.length = l1) (hn:l1 ≤ 100000) (hr:Nums .i64 w w.heap.size A1 nd.shp) (hi:∀ x ∈ nd.shp,In x) (hL:LaidN w) :
  Calls Tryz.prog 60 #[.agg #[.int .i64 nd.kind,.slice A1 l1 c1,.slice A2 l2 c2,.slice A3 l3 c3]] w fun e w' => e = .returned (.string ⟨(headT nd).toArray⟩) ∧ Grow w w':=by
 have hgn:=grow_new w (.cells #[.int .i64 nd.kind,.slice A1 l1 c1,.slice A2 l2 c2,.slice A3 l3 c3] 34);have HBX:=Hh (boxN_new w nd.kind A1 l1 c1 A2 l2 c2 A3 l3 c3);have HC:=Hh (Num.ints_any A1 l1 c1 nd.shp _ h1 hn (hr.grow hgn) hi (hL.grow hgn).1.pows);have HG:=Hh hgn;obtain ⟨nb,hnb⟩:∃ nb,w.heap.size = nb:=⟨_,rfl⟩;have HNB:=Hh hnb;rw [hnb] at HBX
 by_cases h0:nd.shp = []
 ·have hl0:l1 = 0:=by rw [← h1,h0];rfl
  by_cases h5:nd.kind = 5
  ·have HF:Hid (headT nd = [226,138,130]):=Hh (by unfold headT;rw [if_pos h0,if_pos h5])
   have h5b:(nd.kind == 5) = true:=by rw [h5];rfl
   subst hl0;generalize nd.kind = kd at *;clear hgn hnb hr hi hL h1 h0 h5 HC
   go_enter Tryz.func60,Tryz.ntmps60
   go_upto_region 1 with fail
   rw [HNB.out];generalize w.alloc (.cells #[.int .i64 kd,.slice A1 0 c1,.slice A2 l2 c2,.slice A3 l3 c3] 34) = w1 at *;have b0:=HBX.out.at0;have b1:=HBX.out.at1;go_wp2;go_ret;exact ⟨by rw [HF.out];rfl,HG.out⟩
  ·have HF:Hid (headT nd = []):=Hh (by unfold headT;rw [if_pos h0,if_neg h5])
   have h5b:(nd.kind == 5) = false:=by rw [beq_eq_false_iff_ne];exact h5
   subst hl0;generalize nd.kind = kd at *;clear hgn hnb hr hi hL h1 h0 h5 HC
   go_enter Tryz.func60,Tryz.ntmps60
   go_upto_region 1 with fail
   rw [HNB.out];generalize w.alloc (.cells #[.int .i64 kd,.slice A1 0 c1,.slice A2 l2 c2,.slice A3 l3 c3] 34) = w1 at *;have b0:=HBX.out.at0;have b1:=HBX.out.at1;go_wp2;go_ret;exact ⟨by rw [HF.out];rfl,HG.out⟩
 ·have hl0:0 < l1:=by rw [← h1];exact List.length_pos_iff.2 h0
  have HF:Hid (headT nd = Num.intsT nd.shp ++ [226,141,180]):=Hh (by unfold headT;rw [if_neg h0];rfl)
  have hlen:¬ 140737488355327 < (Num.intsT nd.shp).length + 3:=by
   have:=Num.ints_len hi;omega
  have hap:=Quo.str_app (Num.intsT nd.shp) [226,141,180];generalize nd.kind = kd at *;clear hgn hnb hr hi hL h1 h0
  go_enter Tryz.func60,Tryz.ntmps60
  go_upto_region 1 with fail
  rw [HNB.out];generalize w.alloc (.cells #[.int .i64 kd,.slice A1 l1 c1,.slice A2 l2 c2,.slice A3 l3 c3] 34) = w1 at *;have b1:=HBX.out.at1;go_wp2_with fail;refine (HC.out).mono ?_;rintro e w2 ⟨rfl,hg2⟩;have HG2:=Hh (HG.out.trans hg2);clear hg2;go_wp2;go_ret;exact ⟨by rw [HF.out];rfl,HG2.out⟩
def itemT (n:Nd):List UInt8:=if n.kind = 3 then Quo.textQ n.ints else if n.kind = 4 then Num.decsT n.decs else if n.ints = [] then [48] else Num.intsT n.ints
theorem item_leaf {n:Nd} (h:Tid n) (h5:n.kind ≠ 5):itemT n = leafT n:=by
 unfold itemT leafT numsT
 by_cases h3:n.kind = 3
 ·rw [if_pos h3,if_pos h3]
 ·rw [if_neg h3,if_neg h3]
  obtain ⟨hrs,hfill⟩:=ok_right h.ok;have hle:=h.least h3 h5
  by_cases h4:n.kind = 4
  ·rw [if_pos h4,if_neg (by rintro ⟨_,h2,_⟩;omega),if_pos h4]
  ·rw [if_neg h4]
   have hd0:n.decs = []:=by
    unfold fillB at hfill
    by_cases h1:n.kind = 1
    ·rw [if_pos h1] at hfill
     simp only [Bool.and_eq_true,beq_iff_eq] at hfill;exact List.eq_nil_of_length_eq_zero hfill.1.2
    ·rw [if_neg h1] at hfill
     by_cases h2:n.kind = 2
     ·rw [if_pos h2] at hfill
      simp only [Bool.and_eq_true,beq_iff_eq] at hfill;exact List.eq_nil_of_length_eq_zero hfill.2
     ·rw [if_neg h2,if_neg h3,if_neg h4,if_neg h5] at hfill
      cases hfill
   by_cases hi:n.ints = []
   ·have hv0:valsN n = []:=by unfold valsN;rw [hi,hd0];rfl
    have hk2:n.kind = 2:=by rw [← hle,hv0];rfl
    have hc0:cnt n.shp = 0:=by
     have:=(vals_ok h.ok h3 h.fit h.vals).2.2.2 h5;rw [this,hv0];rfl
    have hsh:n.shp ≠ []:=by
     intro e;rw [e] at hc0;exact absurd hc0 (by decide)
    rw [if_pos hi,if_pos ⟨hsh,hk2,hi,hd0⟩]
   ·rw [if_neg hi,if_neg (by rintro ⟨_,_,h',_⟩;exact hi h'),if_neg h4]
theorem pitems_any (nd:Nd) (A1:Option Addr) (l1 c1:Nat) (A2:Option Addr) (l2 c2:Nat) (A3:Option Addr) (l3 c3:Nat) (w:World) (h2:nd.ints.length = l2) (h3:nd.decs.length = l3) (hn2:l2 ≤ 100000) (hn3:l3 ≤ 100000)
  (hr2:Nums .i64 w w.heap.size A2 nd.ints) (hr3:Decs w w.heap.size A3 nd.decs) (hi2:∀ x ∈ nd.ints,In x) (hi3:∀ x ∈ nd.decs,In x.1 ∧ In x.2) (hL:LaidN w) :
  Calls Tryz.prog 61 #[.agg #[.int .i64 nd.kind,.slice A1 l1 c1,.slice A2 l2 c2,.slice A3 l3 c3]] w fun e w' => e = .returned (.string ⟨(itemT nd).toArray⟩) ∧ Grow w w':=by
 have hgn:=grow_new w (.cells #[.int .i64 nd.kind,.slice A1 l1 c1,.slice A2 l2 c2,.slice A3 l3 c3] 34);have HBX:=Hh (boxN_new w nd.kind A1 l1 c1 A2 l2 c2 A3 l3 c3);have HQ:=Hh (Quo.text_any A2 l2 c2 nd.ints _ h2 hn2 (hr2.grow hgn));have HI:=Hh (Num.ints_any A2 l2 c2 nd.ints _ h2 hn2 (hr2.grow hgn) hi2 (hL.grow hgn).1.pows);have HD:=Hh (Num.decs_any A3 l3 c3 nd.decs _ h3 hn3 (hr3.grow hgn) hi3 (hL.grow hgn).1.pows);have HG:=Hh hgn;obtain ⟨nb,hnb⟩:∃ nb,w.heap.size = nb:=⟨_,rfl⟩;have HNB:=Hh hnb;rw [hnb] at HBX
 by_cases k3:nd.kind = 3
 ·have HF:Hid (itemT nd = Quo.textQ nd.ints):=Hh (by unfold itemT;rw [if_pos k3])
  have kb:(nd.kind == 3) = true:=by rw [k3];rfl
  generalize nd.kind = kd at *;clear hgn hnb hr2 hr3 hi2 hi3 hL h2 h3 k3 HI HD
  go_enter Tryz.func61,Tryz.ntmps61
  go_upto_region 1 with fail
  rw [HNB.out];generalize w.alloc (.cells #[.int .i64 kd,.slice A1 l1 c1,.slice A2 l2 c2,.slice A3 l3 c3] 34) = w1 at *;have b0:=HBX.out.at0;have b2:=HBX.out.at2;go_wp2_with fail;refine (HQ.out).mono ?_;rintro e w2 ⟨rfl,hg2⟩;have HG2:=Hh (HG.out.trans hg2);clear hg2;go_wp2;go_ret;exact ⟨by rw [HF.out];rfl,HG2.out⟩
 ·have kb:(nd.kind == 3) = false:=by rw [beq_eq_false_iff_ne];exact k3
  by_cases k4:nd.kind = 4
  ·have HF:Hid (itemT nd = Num.decsT nd.decs):=Hh (by unfold itemT;rw [if_neg k3,if_pos k4])
   have kb4:(nd.kind == 4) = true:=by rw [k4];rfl
   generalize nd.kind = kd at *;clear hgn hnb hr2 hr3 hi2 hi3 hL h2 h3 k3 k4 HI HQ
   go_enter Tryz.func61,Tryz.ntmps61
   go_upto_region 1 with fail
   rw [HNB.out];generalize w.alloc (.cells #[.int .i64 kd,.slice A1 l1 c1,.slice A2 l2 c2,.slice A3 l3 c3] 34) = w1 at *;have b0:=HBX.out.at0;have b3:=HBX.out.at3;go_wp2_with fail;refine (HD.out).mono ?_;rintro e w2 ⟨rfl,hg2⟩;have HG2:=Hh (HG.out.trans hg2);clear hg2;go_wp2;go_ret;exact ⟨by rw [HF.out];rfl,HG2.out⟩
  ·have kb4:(nd.kind == 4) = false:=by rw [beq_eq_false_iff_ne];exact k4
   by_cases hi:nd.ints = []
   ·have HF:Hid (itemT nd = [48]):=Hh (by unfold itemT;rw [if_neg k3,if_neg k4,if_pos hi])
    have hl0:l2 = 0:=by rw [← h2,hi];rfl
    subst hl0;generalize nd.kind = kd at *;clear hgn hnb hr2 hr3 hi2 hi3 hL h2 h3 k3 k4 HI HQ HD hi
    go_enter Tryz.func61,Tryz.ntmps61
    go_upto_region 1 with fail
    rw [HNB.out];generalize w.alloc (.cells #[.int .i64 kd,.slice A1 l1 c1,.slice A2 0 c2,.slice A3 l3 c3] 34) = w1 at *;have b0:=HBX.out.at0;have b2:=HBX.out.at2;go_wp2;go_ret;exact ⟨by rw [HF.out];rfl,HG.out⟩
   ·have HF:Hid (itemT nd = Num.intsT nd.ints):=Hh (by unfold itemT;rw [if_neg k3,if_neg k4,if_neg hi])
    have hl0:0 < l2:=by rw [← h2];exact List.length_pos_iff.2 hi
    have hlb:(((l2:Nat):Int) == 0) = false:=by rw [beq_eq_false_iff_ne];omega
    generalize nd.kind = kd at *;clear hgn hnb hr2 hr3 hi2 hi3 hL h2 h3 k3 k4 HQ HD hi
    go_enter Tryz.func61,Tryz.ntmps61
    go_upto_region 1 with fail
    rw [HNB.out];generalize w.alloc (.cells #[.int .i64 kd,.slice A1 l1 c1,.slice A2 l2 c2,.slice A3 l3 c3] 34) = w1 at *;have b0:=HBX.out.at0;have b2:=HBX.out.at2;go_wp2_with fail;refine (HI.out).mono ?_;rintro e w2 ⟨rfl,hg2⟩;have HG2:=Hh (HG.out.trans hg2);clear hg2;go_wp2;go_ret;exact ⟨by rw [HF.out];rfl,HG2.out⟩
open Go.RowKit Go.Lib
def Wr (m:Nd):Prop:=Tid m ∧ m.ints.length ≤ 100000 ∧ m.decs.length ≤ 100000
theorem Wr.parts {m:Nd} (h:Wr m):m.shp.length ≤ 16 ∧ (∀ x ∈ m.shp,In x) ∧ (∀ x ∈ m.ints,In x) ∧ (∀ x ∈ m.decs,In x.1 ∧ In x.2):=by
 obtain ⟨hrs,_⟩:=ok_right h.1.ok;exact ⟨(right_iff.1 hrs).1,shp_in hrs,h.1.vals,h.1.fit.2.2.2.2⟩
def WriP (B b:Nat) (q x:List UInt8) (L:List Nd) (w:World) (e:Ending) (w':World):Prop :=
 ∃ A' n' c',e = .returned (.slice A' n' c') ∧ L.length = n' ∧ n' ≤ c' ∧ Nodes w' B A' L ∧ Bld B b (q ++ x) w' ∧ Below B w w'
theorem catN_mono (p : List Nd → Option St) (f : List Nd → List UInt8) (l : List Nd) (j : Nat) : ∀ c, j ≤ c → (catN p f j l).length ≤ (catN p f c l).length
  | 0, h => by obtain rfl : j = 0 := by omega
               exact Nat.le_refl _
  | c + 1, h => by
    by_cases he : j = c + 1
    · rw [he]; exact Nat.le_refl _
    · have := catN_mono p f l j c (by omega)
      show _ ≤ (catN p f c l ++ _).length
      rw [List.length_append]
      omega
theorem Bld.lt {B b:Nat} {q:List UInt8} {w:World} (h:Bld B b q w):b < w.heap.size:=h.elim BuilderAtF.lt BuilderAtF.lt
theorem pwrite_any:∀ (d B b:Nat) (q:List UInt8) (A:Option Addr) (n c:Nat) (ns:List Nd) (s:St) (w:World),par d ns = some s → (∀ m ∈ ns.take s.n,Wr m) → ns.length = n → n ≤ 1100000 → n ≤ c → Nodes w B A ns → Bld B b q w → B ≤ w.heap.size → q.length + (noteF d ns).length ≤ 140737488355328 → LaidG B w →
  Calls Tryz.prog 27 #[.pointer (some ⟨b,0,none⟩),.slice A n c] w (WriP B b q (noteF d ns) (ns.drop s.n) w):=by
 intro d
 induction d with
 | zero => intro B b q A n c ns s w hp;cases hp
 | succ d ih =>
  intro B b q A n c ns s w hp hW hn hnb hnc hns hbld hBw hlen hL;obtain ⟨e',nd,l',t,he,rfl,hok,hpk,rfl⟩:=par_parts hp;obtain rfl:d = e':=by omega
  obtain ⟨nl,hnl⟩:∃ nl,l'.length = nl:=⟨_,rfl⟩;have hn1:n = nl + 1:=by rw [← hn,List.length_cons,hnl]
  subst hn1;have hWn:Wr nd:=hW nd (by simp [top])
  have hWk:∀ m ∈ l'.take t.n,Wr m:=fun m hm => hW m (by
   have:(nd :: l').take (top nd t).n = nd :: l'.take t.n:=rfl
   rw [this];simp [hm])
  obtain ⟨w1,w2,w3,w4⟩:=hWn.parts;have HWN:=Hh hWn;have HWK:=Hh hWk;have HPK:=Hh hpk;have HNL:=Hh hnl;have HL:=Hh hL;have HBL:=Hh hbld;have IH:=Hh ih;have HNO:Hid (noteF (d + 1) (nd :: l') = headT nd ++ if nd.kind = 5 then catN (par d) (noteF d) (kc nd) l' else leafT nd):=Hh (noteF_cons d nd l')
  have HDR:Hid ((nd :: l').drop (top nd t).n = l'.drop t.n):=Hh rfl;obtain ⟨b0,off,rfl,hb0,hat⟩:=hns (by simp)
  have HNS:=Hh hns;obtain ⟨A1,c1,A2,c2,A3,c3,p0,p1,p2,p3,m1,m2,m3⟩:=hat 0 (by simp)
  rw [Nat.zero_mul,Nat.add_zero] at p0 p1 p2 p3;rw [show (nd :: l').getD 0 nd0 = nd from rfl] at p0 p1 p2 p3 m1 m2 m3;have HM:=Hh (show Nums .i64 w B A1 nd.shp ∧ Nums .i64 w B A2 nd.ints ∧ Decs w B A3 nd.decs from ⟨m1,m2,m3⟩);have hs1:∀ W:World,(Instr.slice 22 (.slice (some ⟨b0,off,none⟩) (nl + 1) c) (some (.int .i64 1)) none none).run Tryz.prog W = .ok (.slice (cutA (some ⟨b0,off,none⟩) c 1) nl (c - 1)) W:=fun W => run_cut_lo (some ⟨b0,off,none⟩) (nl + 1) c 1 (by omega) W
  obtain ⟨AL,hAL⟩:∃ AL,cutA (some ⟨b0,off,none⟩) c 1 = AL:=⟨_,rfl⟩;rw [hAL] at hs1;have HAL:=Hh hAL;clear hok hpk hnl hL hbld ih hat m1 m2 m3 hns hp hW hWn hWk hAL hn he;obtain ⟨l1,hl1⟩:∃ l1,nd.shp.length = l1:=⟨_,rfl⟩;obtain ⟨l2,hl2⟩:∃ l2,nd.ints.length = l2:=⟨_,rfl⟩;obtain ⟨l3,hl3⟩:∃ l3,nd.decs.length = l3:=⟨_,rfl⟩;have HL1:=Hh hl1;have HL2:=Hh hl2;have HL3:=Hh hl3;rw [hl1] at p1 w1;rw [hl2] at p2;rw [hl3] at p3;clear hl1 hl2 hl3;obtain ⟨nb,hnb⟩:∃ nb,w.heap.size = nb:=⟨_,rfl⟩;have HNB:=Hh hnb;have hbx:=boxN_new w nd.kind A1 l1 c1 A2 l2 c2 A3 l3 c3;rw [hnb] at hbx;have HBX:=Hh hbx;have HG1:=Hh (grow_new w (.cells #[.int .i64 nd.kind,.slice A1 l1 c1,.slice A2 l2 c2,.slice A3 l3 c3] 34));have HIN:=Hh (show (∀ x ∈ nd.shp,In x) ∧ (∀ x ∈ nd.ints,In x) ∧ (∀ x ∈ nd.decs,In x.1 ∧ In x.2) from ⟨w2,w3,w4⟩);clear hbx w2 w3 w4;obtain ⟨kd,hkd⟩:∃ kd,nd.kind = kd:=⟨_,rfl⟩;have HKD:=Hh hkd;rw [hkd] at p0 HBX HG1;clear hkd;have hB0:b0 < B:=hb0
  go_enter Tryz.func27,Tryz.ntmps27
  have hpos:(0:Int) < ((nl + 1:Nat):Int):=by omega
  go_wp2;refine wp_region_R ((Below nb)) (n:=8) rfl (by kernel_rfl) ?_
  intro W0 hW0e hW0;have HW0:=Hh hW0;have HZ0:Hid (W0.heap.size = nb):=Hh (by rw [hW0e];exact HNB.out)
  have hBn:B ≤ nb:=by rw [← HNB.out];exact hBw
  have f0:∀ wg,Below nb W0 wg → wg.cell? ⟨b0,off,none⟩ = some (.int .i64 kd):=fun wg h => (h.cell (by show b0 < nb;omega)).trans ((HW0.out.cell (by show b0 < w.heap.size;omega)).trans p0)
  have f1:∀ wg,Below nb W0 wg → wg.cell? ⟨b0,off + 1,none⟩ = some (.slice A1 l1 c1):=fun wg h => (h.cell (by show b0 < nb;omega)).trans ((HW0.out.cell (by show b0 < w.heap.size;omega)).trans p1)
  have f2:∀ wg,Below nb W0 wg → wg.cell? ⟨b0,off + 2,none⟩ = some (.slice A2 l2 c2):=fun wg h => (h.cell (by show b0 < nb;omega)).trans ((HW0.out.cell (by show b0 < w.heap.size;omega)).trans p2)
  have f3:∀ wg,Below nb W0 wg → wg.cell? ⟨b0,off + 3,none⟩ = some (.slice A3 l3 c3):=fun wg h => (h.cell (by show b0 < nb;omega)).trans ((HW0.out.cell (by show b0 < w.heap.size;omega)).trans p3)
  clear hW0e;refine wpR_take (belowOrd nb) (i:=0) (v:=?vf1) rfl (by kernel_rfl) (by kernel_rfl) (by kernel_rfl) (fun _ _ _ h => h) (by rfl) ?hf1 ?rf1
  case hf1 => (intro wg hSw;go_simp <;> with_reducible rfl)
  simp only [Act.put,List.setIfInBounds_toArray,List.set_cons_zero,List.set_cons_succ];refine wpR_take (belowOrd nb) (i:=1) (v:=?vf2) rfl (by kernel_rfl) (by kernel_rfl) (by kernel_rfl) (fun _ _ _ h => h) (by rfl) ?hf2 ?rf2
  case hf2 => (intro wg hSw;go_simp <;> with_reducible rfl)
  simp only [Act.put,List.setIfInBounds_toArray,List.set_cons_zero,List.set_cons_succ];refine wpR_take (belowOrd nb) (i:=2) (v:=?vf3) rfl (by kernel_rfl) (by kernel_rfl) (by kernel_rfl) (fun _ _ _ h => h) (by rfl) ?hf3 ?rf3
  case hf3 => (intro wg hSw;go_simp <;> with_reducible rfl)
  simp only [Act.put,List.setIfInBounds_toArray,List.set_cons_zero,List.set_cons_succ];refine wpR_take (belowOrd nb) (i:=3) (v:=?vf4) rfl (by kernel_rfl) (by kernel_rfl) (by kernel_rfl) (fun _ _ _ h => h) (by rfl) ?hf4 ?rf4
  case hf4 => (intro wg hSw;go_simp <;> with_reducible rfl)
  simp only [Act.put,List.setIfInBounds_toArray,List.set_cons_zero,List.set_cons_succ];refine wpR_take (belowOrd nb) (i:=4) (v:=?vf5) rfl (by kernel_rfl) (by kernel_rfl) (by kernel_rfl) (fun _ _ _ h => h) (by rfl) ?hf5 ?rf5
  case hf5 => (intro wg hSw;go_simp <;> with_reducible rfl)
  simp only [Act.put,List.setIfInBounds_toArray,List.set_cons_zero,List.set_cons_succ];refine wpR_one (i:=5) (by kernel_rfl) ?_
  refine wpR_op (i:=5) rfl (by rfl) (fun K hK => ?_)
  go_simp;refine hK.out _ _ (Below.mono (grow_new _ _) (by rw [← HZ0.out];exact ((((belowOrd nb)).refl W0)).size)) ?_
  clear hK K
  try simp only [Act.put,List.setIfInBounds_toArray,List.set_cons_zero,List.set_cons_succ]
  have hb5:=boxN_new W0 0 none 0 0 none 0 0 none 0 0;have hN5:=grow_new W0 (.cells #[.int .i64 0,.slice none 0 0,.slice none 0 0,.slice none 0 0] 34);rw [HZ0.out] at hb5 ⊢;generalize hwM5:World.alloc W0 (Obj.cells #[.int .i64 0,.slice none 0 0,.slice none 0 0,.slice none 0 0] 34) = wM5 at *;have hM5:Below nb W0 wM5:=Below.mono hN5 (by rw [← HZ0.out];exact ((((belowOrd nb)).refl W0)).size)
  have HB5:=Hh hb5;clear hwM5 hb5;refine wpR_one (i:=6) (by kernel_rfl) ?_
  refine wpR_op (i:=6) rfl (by rfl) (fun K hK => ?_)
  have z0:=HB5.out.froz 0;have z1:=HB5.out.froz 1;have z2:=HB5.out.froz 2;have z3:=HB5.out.froz 3;have y0:=HB5.out.at0;have y1:=HB5.out.at1;have y2:=HB5.out.at2;have y3:=HB5.out.at3;go_simp;refine hK.out _ _ (below_put4 (Nat.le_refl _) _ _ _ _) ?_;clear hK K z0 z1 z2 z3 y0 y1 y2 y3
  try simp only [Act.put,List.setIfInBounds_toArray,List.set_cons_zero,List.set_cons_succ]
  have hb6:=HB5.out.store kd A1 A2 A3 l1 c1 l2 c2 l3 c3;have hM6:Below nb wM5 ((((wM5).setCell ⟨nb,0,none⟩ (.int .i64 kd)).setCell ⟨nb,1,none⟩ (.slice A1 l1 c1)).setCell ⟨nb,2,none⟩ (.slice A2 l2 c2) |>.setCell ⟨nb,3,none⟩ (.slice A3 l3 c3)):=below_put4 (Nat.le_refl _) _ _ _ _;generalize hwM6:World.setCell _ _ _ = wM6 at *;have hN6:=hM6;have HB6:=Hh hb6;clear hwM6 hb6;refine wpR_take (belowOrd nb) (i:=7) (v:=?vf6) rfl (by kernel_rfl) (by kernel_rfl) (by kernel_rfl) (fun _ _ _ h => h) (by rfl) ?hf6 ?rf6
  case hf6 => (intro wg hSw;go_simp <;> with_reducible rfl)
  simp only [Act.put,List.setIfInBounds_toArray,List.set_cons_zero,List.set_cons_succ];refine wpR_done (by kernel_rfl) ?_
  have HGW:Hid (Grow w wM6):=Hh (by
   have h1:Below nb w W0:=by rw [← HNB.out];exact HW0.out
   have h2:=Below.trans h1 (((belowOrd nb)).trans (((belowOrd nb)).trans (((belowOrd nb)).refl W0) hM5) hM6);rw [← HNB.out] at h2
   exact h2)
  have HBX6:Hid (BoxN wM6 nb kd A1 l1 c1 A2 l2 c2 A3 l3 c3):=HB6;generalize wM6 = w6 at HGW HBX6 ⊢;have hBB:Hid (Below B w w6):=Hh (Below.mono HGW.out hBw);have hB6:B ≤ w6.heap.size:=Nat.le_trans hBw HGW.out.size;have HL6:=Hh (HL.out.below hBB.out);have HBL6:=Hh (HBL.out.grow HGW.out)
  have HCUT:Hid (Nodes w6 B AL l'):=Hh (by
   have h:=(HNS.out.below hBB.out).cut c 1 (by rw [List.length_cons,HNL.out];exact hnc)
   rw [HAL.out] at h
   exact h)
  have HFR:=pfront_any nd A1 l1 c1 A2 l2 c2 A3 l3 c3 w6 HL1.out (by omega) ((HM.out.1.below hBB.out).more hB6) HIN.out.1 HL6.out.now
  rw [HKD.out] at HFR;have HFR:=Hh HFR;have hln:(noteF (d + 1) (nd :: l')).length = (headT nd).length + (if nd.kind = 5 then catN (par d) (noteF d) (kc nd) l' else leafT nd).length:=by rw [HNO.out,List.length_append]
  rw [hln] at hlen;rw [HKD.out] at hlen HNO;have HWR7:=Hh (fun W (hg:Grow w6 W) => write_any B b q (headT nd) W (HBL6.out.grow hg) (by omega) (Nat.le_trans hB6 hg.size))
  have x0:=HBX6.out.at0;have x1:=HBX6.out.at1;have x2:=HBX6.out.at2;have x3:=HBX6.out.at3;clear HBX HG1 f0 f1 f2 f3 p0 p1 p2 p3 hs1 hln HW0 HZ0 HNS;go_wp2_with fail;refine (HFR.out).mono ?_;rintro e w7 ⟨rfl,hg7⟩;have HG7:=Hh hg7;have HBX7:=Hh (HBX6.out.grow hg7);clear hg7 HFR x0 x1 x2 x3;go_wp2_with fail;refine (HWR7.out w7 HG7.out).mono ?_;rintro e w8 ⟨⟨x,rfl⟩,hb8,hB8,ho8⟩;have HB8:=Hh hb8;have HBX8:Hid (BoxN w8 nb kd A1 l1 c1 A2 l2 c2 A3 l3 c3):=Hh (box_others ho8 HBX7.out (by have:=HBL.out.lt;rw [HNB.out] at this;omega))
  have HF8:Hid (Below B w w8):=Hh (Below.trans hBB.out (Below.trans (Below.mono HG7.out hB6) hB8));have HS8:Hid (B ≤ w8.heap.size):=Hh (Nat.le_trans hBw HF8.out.size);have HL8:=Hh (HL.out.below HF8.out);have HF68:Hid (Below B w6 w8):=Hh (Below.trans (Below.mono HG7.out hB6) hB8);have HC8:=Hh (HCUT.out.below HF68.out);clear hb8 hB8 ho8 HWR7 HBX7 HBX6 HL6 HBL6 HCUT;have x0:=HBX8.out.at0;have x1:=HBX8.out.at1;have x2:=HBX8.out.at2;have x3:=HBX8.out.at3
  by_cases hk5:kd = 5
  ·have hkb:(kd != 5) = false:=by rw [hk5];rfl
   have HKC:Hid (kc nd = cnt nd.shp):=Hh (by unfold kc;rw [HKD.out];exact if_pos hk5)
   rw [if_pos hk5] at hlen HNO;obtain ⟨ι,hι⟩:∃ ι,cnt nd.shp = ι:=⟨_,rfl⟩;rw [HKC.out,hι] at hlen HNO;have HPI:Hid (parK (par d) ι l' = some t):=Hh (by rw [← hι,← HKC.out];exact HPK.out)
   have hιb:ι ≤ 1048576:=hι ▸ cnt_le1 _;have HCN:=Hh (count_any A1 l1 c1 nd.shp w8 HL1.out (by omega) ((HM.out.1.below HF8.out).more HS8.out))
   rw [hι] at HCN;have HHD:Hid (∃ hd,headT nd = hd):=Hh ⟨_,rfl⟩;obtain ⟨hd,hhd⟩:=HHD.out;rw [hhd] at HB8 hlen HNO;clear hι hk5 hhd HHD;go_wp2_with fail;refine (HCN.out).mono ?_;rintro x w8 ⟨rfl,rfl⟩;clear x0 x1 x2 x3 HCN HBX8;go_wp2
   go_loopg [6,33] ι (fun gk s6 s33 wr => ∃ (j f cl:Nat) (u:St) (AL':Option Addr),j ≤ ι ∧ gk = ι - j ∧ s33 = .int .i64 (j:Nat) ∧ s6 = .slice AL' f cl ∧ f ≤ cl ∧ Hid (parK (par d) j l' = some u) ∧ Hid ((l'.drop u.n).length = f) ∧
    Hid (Nodes wr B AL' (l'.drop u.n)) ∧ Hid (Bld B b (q ++ hd ++ catN (par d) (noteF d) j l') wr) ∧ Hid (Below B w8 wr))
   case atStart =>
    exact ⟨0,nl,c - 1,st0,AL,Nat.zero_le _,rfl,rfl,rfl,by omega,Hh rfl,Hh HNL.out,HC8,Hh (by show Bld B b (q ++ hd ++ []) w8;rw [List.append_nil];exact HB8.out),Hh (Below.refl _ _)⟩
   case round =>
    obtain ⟨j,f,cl,u,AL',hj,rfl,rfl,rfl,hfc,HPJ,HFL,HNJ,HBJ,HFR⟩:=hrel
    by_cases hjl:j < ι
    ·have hji:((j:Nat):Int) < ((ι:Nat):Int):=by omega
     obtain ⟨a',ha',hAn,_⟩:=parK_to HPI.out (j + 1) hjl;obtain ⟨x,y,hx,hy,rfl⟩:=parK_some ha';rw [HPJ.out] at hx
     cases hx
     have hyn:=(par_len hy).2.1;have hfl:=HFL.out;have HCS:=Hh (catN_succ (f:=noteF d) HPJ.out);have hcm:=catN_mono (par d) (noteF d) l' (j + 1) ι hjl;rw [HCS.out] at hcm;simp only [List.length_append,List.length_cons,List.length_nil] at hcm;have hszr:B ≤ wr.heap.size:=Nat.le_trans HS8.out HFR.out.size;have HLR:=Hh (HL8.out.below HFR.out);have HO1:=Hh (write_any B b (q ++ hd ++ catN (par d) (noteF d) j l') [40] wr HBJ.out (by simp only [List.length_append,List.length_cons,List.length_nil];omega) hszr)
     obtain ⟨qc,hqc⟩:∃ qc,q ++ hd ++ catN (par d) (noteF d) j l' = qc:=⟨_,rfl⟩;have hqcl:qc.length = q.length + hd.length + (catN (par d) (noteF d) j l').length:=by rw [← hqc];simp only [List.length_append]
     have HQC:=Hh hqc;rw [hqc] at HO1
     have HWD:Hid (∀ m ∈ (l'.drop u.n).take y.n,Wr m):=Hh (fun m hm => HWK.out m (by
      have e:l'.take (u.plus y).n = l'.take u.n ++ (l'.drop u.n).take y.n:=take_app_part;have h1:m ∈ l'.take (u.plus y).n:=by rw [e];exact List.mem_append_right _ hm
      have h2:l'.take (u.plus y).n = (l'.take t.n).take (u.plus y).n:=by rw [List.take_take];congr 1;omega
      rw [h2] at h1
      exact List.mem_of_mem_take h1))
     have HC:Hid (∀ W,Below B wr W → Bld B b (qc ++ [40]) W → Calls Tryz.prog 27 #[.pointer (some ⟨b,0,none⟩),.slice AL' f cl] W (WriP B b (qc ++ [40]) (noteF d (l'.drop u.n)) ((l'.drop u.n).drop y.n) W)) :=
      Hh (fun W hW hb => IH.out B b (qc ++ [40]) AL' f cl (l'.drop u.n) y W hy HWD.out HFL.out (by rw [List.length_drop,HNL.out] at hfl;omega) hfc (HNJ.out.below hW) hb (Nat.le_trans hszr hW.size) (by rw [List.length_append,hqcl];simp only [List.length_cons,List.length_nil];omega) (HLR.out.below hW))
     have HA:=Hh ha';have hnx:(qc ++ [40] ++ noteF d (l'.drop u.n)).length + 1 ≤ 140737488355328:=by simp only [List.length_append,List.length_cons,List.length_nil,hqcl];omega
     clear ha' hy hqc;generalize hNT:noteF d (l'.drop u.n) = NT at *;go_wp2_with fail;refine (HO1.out).mono ?_;rintro e v1 ⟨⟨x1,rfl⟩,hb1,hB1,_⟩;have HK1:=Hh (HC.out v1 hB1 hb1);have HF1:=Hh (Below.trans HFR.out hB1);clear hb1 hB1 HO1 HC;go_wp2_with fail;refine (HK1.out).mono ?_;rintro e v2 ⟨A2',n2',c2',rfl,hl2,hc2,hns2,hb2,hB2⟩;have HF2:=Hh (Below.trans HF1.out hB2);have HO2:=Hh (write_any B b (qc ++ [40] ++ NT) [41] v2 hb2 hnx (Nat.le_trans HS8.out HF2.out.size));have HN2:=Hh hns2;have HE2:=Hh hl2;clear hl2 hns2 hb2 hB2 HK1;go_wp2_with fail;refine (HO2.out).mono ?_;rintro e v3 ⟨⟨x3,rfl⟩,hb3,hB3,_⟩;have HF3:=Hh (Below.trans HF2.out hB3);have HN3:=Hh (HN2.out.below hB3)
     have HB3:Hid (Bld B b (q ++ hd ++ catN (par d) (noteF d) (j + 1) l') v3):=Hh (by
      rw [HCS.out,← List.append_assoc,HQC.out];have e:qc ++ 40 :: (NT ++ [41]) = qc ++ [40] ++ NT ++ [41]:=by simp
      rw [e]
      exact hb3)
     have e2:l'.drop (u.plus y).n = (l'.drop u.n).drop y.n:=by rw [List.drop_drop];rfl
     have HE3:Hid ((l'.drop (u.plus y).n).length = n2'):=Hh (by rw [e2];exact HE2.out)
     have HN4:Hid (Nodes v3 B A2' (l'.drop (u.plus y).n)):=Hh (by rw [e2];exact HN3.out)
     clear hb3 hB3 HO2 HN2 HN3 e2 HE2;go_wp2;go_roundg (ι - (j + 1))
     case rel => exact ⟨j + 1,n2',c2',u.plus y,A2',hjl,rfl,rfl,rfl,hc2,HA,HE3,HN4,HB3,HF3⟩
     case measure => omega
    ·obtain rfl:j = ι:=by omega
     have hut:=HPJ.out;rw [HPI.out] at hut
     cases hut
     go_wp2;go_ret;exact ⟨AL',f,cl,rfl,HFL.out,hfc,HNJ.out,by rw [HNO.out,← List.append_assoc];exact HBJ.out,Below.trans HF8.out HFR.out⟩
  ·have hkb:(kd != 5) = true:=by rw [bne_iff_ne];exact hk5
   have HIT:=pitems_any nd A1 l1 c1 A2 l2 c2 A3 l3 c3 w8 HL2.out HL3.out (by rw [← HL2.out];exact HWN.out.2.1) (by rw [← HL3.out];exact HWN.out.2.2) ((HM.out.2.1.below HF8.out).more HS8.out) ((HM.out.2.2.below HF8.out).more HS8.out) HIN.out.2.1 HIN.out.2.2 HL8.out.now
   rw [item_leaf HWN.out.1 (by rw [HKD.out];exact hk5),HKD.out] at HIT
   have HIT:=Hh HIT;rw [if_neg hk5] at hlen HNO;have HWR9:=Hh (fun W (hg:Grow w8 W) => write_any B b (q ++ headT nd) (leafT nd) W (HB8.out.grow hg) (by rw [List.length_append];omega) (Nat.le_trans HS8.out hg.size))
   have HPZ:=HPK.out;rw [show kc nd = 0 by unfold kc;rw [HKD.out,if_neg hk5],parK_zero] at HPZ
   obtain rfl:st0 = t:=by cases HPZ;rfl
   clear HPZ hk5;go_wp2_with fail;refine (HIT.out).mono ?_;rintro e w9 ⟨rfl,hg9⟩;have HG9:=Hh hg9;clear hg9 HIT x0 x1 x2 x3;go_wp2_with fail;refine (HWR9.out w9 HG9.out).mono ?_;rintro e w10 ⟨⟨x,rfl⟩,hb10,hB10,_⟩;have HB10:=Hh hb10;have HF10:Hid (Below B w8 w10):=Hh (Below.trans (Below.mono HG9.out HS8.out) hB10);clear hb10 hB10 HWR9;go_wp2;go_ret;exact ⟨AL,nl,c - 1,rfl,HNL.out,by omega,HC8.out.below HF10.out,by rw [HNO.out,← List.append_assoc];exact HB10.out,Below.trans HF8.out HF10.out⟩
open Go.RowKit Go.Lib
theorem rawT_of {T:Nat → Prop} {w:World} {A:Option Addr} {ns:List Nd} (h:NodesT T w A ns):∃ vs,vs.length = ns.length * 4 ∧ (∀ i,i < ns.length → HeldN T w (fun j => vs.getD j undef) i (ns.getD i nd0)) ∧ Ones vs ∧ Src w A vs:=by
 obtain ⟨vs,hl,h1,hs,hc⟩:=src_nodes h.nodes;refine ⟨vs,hl,fun i hi => ?_,h1,hs⟩;obtain ⟨b,off,rfl,hb,hat⟩:=h (by omega)
 obtain ⟨A1,c1,A2,c2,A3,c3,p0,p1,p2,p3,n1,n2,n3⟩:=hat i hi;have cell:∀ j v,j < ns.length * 4 → w.cell? ⟨b,off + j,none⟩ = some v → vs.getD j undef = v:=fun j v hj hv => by
  obtain ⟨u,hu,hcu⟩:=hc b off rfl j hj;rw [hcu] at hv
  cases hv
  simp [List.getD,hu]
 exact ⟨A1,c1,A2,c2,A3,c3,cell _ _ (by omega) p0,cell _ _ (by omega) (by rw [← Nat.add_assoc];exact p1),cell _ _ (by omega) (by rw [← Nat.add_assoc];exact p2),cell _ _ (by omega) (by rw [← Nat.add_assoc];exact p3),n1,n2,n3⟩
def OwnRX (X:Nat → Prop) (B:Nat) (v:Value) (ns:List Nd) (w:World):Prop :=
 B ≤ w.heap.size ∧ ∃ vals,w.ownsRow B 34 4 v ns.length vals ∧ ∀ i,i < ns.length → HeldN (fun b => B ≤ b ∧ v.ownBlock ≠ some b ∧ b < w.heap.size ∧ ¬ X b) w (fun j => vals.getD j undef) i (ns.getD i nd0)
theorem OwnRX.nodes {X:Nat → Prop} {B:Nat} {v:Value} {ns:List Nd} {w:World} (h:OwnRX X B v ns w):∃ A c,v = .slice A ns.length c ∧ ns.length ≤ c ∧ NodesT (fun b => B ≤ b ∧ b < w.heap.size) w A ns:=by
 obtain ⟨hB,vals,ho,hn⟩:=h;exact OwnRN.nodes ⟨hB,vals,ho,fun i hi => (hn i hi).keep (fun b hb => ⟨⟨hb.1,hb.2.1,hb.2.2.1⟩,rfl⟩) (fun _ _ _ => rfl)⟩
theorem OwnRX.lt {X:Nat → Prop} {B:Nat} {v:Value} {ns:List Nd} {w:World} (h:OwnRX X B v ns w) {q:Nat} (hq:v.ownBlock = some q):B ≤ q ∧ q < w.heap.size:=by
 obtain ⟨hB,vals,ho,hn⟩:=h;exact ho.lt q hq
theorem own_keep1 {w w':World} {B size n:Nat} {e:TypeId} {v:Value} {xs:List Value} (h:w.ownsRow B e size v n xs) (hk:∀ b,v.ownBlock = some b → b < w.heap.size → w'.heap[b]? = w.heap[b]?):w'.ownsRow B e size v n xs:=by
 refine ⟨h.1,?_⟩
 rcases h.2 with h | ⟨g,cap,cur,e1,hb,hg,rest⟩
 ·exact .inl h
 ·exact .inr ⟨g,cap,cur,e1,hb,(hk g (by rw [e1];rfl) (heap_lt hg)).trans hg,rest⟩
def Trio (B:Nat) (v7 v8 v9:Value) (ns:List Nd) (xs:List Int) (ds:List (Int × Int)) (w:World):Prop :=
 OwnRX (fun b => v8.ownBlock = some b ∨ v9.ownBlock = some b) B v7 ns w ∧ OwnI B v8 xs w ∧ OwnD B v9 ds w ∧ (∀ q,v7.ownBlock = some q → v8.ownBlock ≠ some q ∧ v9.ownBlock ≠ some q) ∧ ∀ q,v8.ownBlock = some q → v9.ownBlock ≠ some q
theorem Trio.grow {B:Nat} {v7 v8 v9:Value} {ns:List Nd} {xs:List Int} {ds:List (Int × Int)} {w w':World} (h:Trio B v7 v8 v9 ns xs ds w) (hg:Grow w w'):Trio B v7 v8 v9 ns xs ds w':=by
 obtain ⟨⟨hB,vals,ho,hn⟩,h8,h9,hu⟩:=h;exact ⟨⟨Nat.le_trans hB hg.size,vals,ownsRow_grow ho hg,fun i hi => (hn i hi).keep (fun b hb => ⟨⟨hb.1,hb.2.1,Nat.lt_of_lt_of_le hb.2.2.1 hg.size,hb.2.2.2⟩,hg.block b hb.2.2.1⟩) (fun _ _ _ => rfl)⟩,h8.grow hg,h9.grow hg,hu⟩
theorem Trio.size {B:Nat} {v7 v8 v9:Value} {ns:List Nd} {xs:List Int} {ds:List (Int × Int)} {w:World} (h:Trio B v7 v8 v9 ns xs ds w):B ≤ w.heap.size:=h.1.1
theorem Trio.put7 {B:Nat} {v7 v8 v9 v':Value} {ns ns':List Nd} {xs:List Int} {ds:List (Int × Int)} {w w':World} (h:Trio B v7 v8 v9 ns xs ds w) (h':OwnRX (fun b => v8.ownBlock = some b ∨ v9.ownBlock = some b) B v' ns' w') (ha:Apart v7 v' w w'):Trio B v' v8 v9 ns' xs ds w':=by
 obtain ⟨h7,h8,h9,hu,hv⟩:=h;have l8:=fun q hq => (World.ownsRow.lt h8 q hq).2;have l9:=fun q hq => (World.ownsRow.lt h9 q hq).2;refine ⟨h',own_keep1 h8 fun b hb hl => ha.1 b hl fun e => (hu b e).1 hb,own_keep1 h9 fun b hb hl => ha.1 b hl fun e => (hu b e).2 hb,fun q hq => ?_,hv⟩
 rcases ha.2 with e | e
 ·exact hu q (e ▸ hq)
 ·have e':w.heap.size = q:=Option.some.inj (e ▸ hq)
  exact ⟨fun k => by have:=l8 q k;omega,fun k => by have:=l9 q k;omega⟩
theorem Trio.put8 {B:Nat} {v7 v8 v9 v':Value} {ns:List Nd} {xs xs':List Int} {ds:List (Int × Int)} {w w':World} (h:Trio B v7 v8 v9 ns xs ds w) (h':OwnI B v' xs' w') (hb:Below B w w') (ha:Apart v8 v' w w'):Trio B v7 v' v9 ns xs' ds w':=by
 obtain ⟨⟨hB,vals,ho,hn⟩,h8,h9,hu,hv⟩:=h;have l7:=fun q hq => (World.ownsRow.lt ho q hq).2;have l9:=fun q hq => (World.ownsRow.lt h9 q hq).2;refine ⟨⟨Nat.le_trans hB hb.size,vals,own_keep1 ho fun b hb hl => ha.1 b hl fun e => (hu b hb).1 e,fun i hi => (hn i hi).keep (fun b hb' => ⟨⟨hb'.1,hb'.2.1,Nat.lt_of_lt_of_le hb'.2.2.1 hb.size,fun k => ?_⟩,ha.1 b hb'.2.2.1 fun e => hb'.2.2.2 (.inl e)⟩) (fun _ _ _ => rfl)⟩,h',own_keep1 h9 fun b hb hl => ha.1 b hl fun e => hv b e hb,fun q hq => ⟨fun k => ?_,(hu q hq).2⟩,fun q hq => ?_⟩
 ·rcases k with k | k
  ·rcases ha.2 with e | e
   ·exact hb'.2.2.2 (.inl (e ▸ k))
   ·have e':w.heap.size = b:=Option.some.inj (e ▸ k)
    have:=hb'.2.2.1;omega
  ·exact hb'.2.2.2 (.inr k)
 ·rcases ha.2 with e | e
  ·exact (hu q hq).1 (e ▸ k)
  ·have e':w.heap.size = q:=Option.some.inj (e ▸ k)
   have:=l7 q hq;omega
 ·rcases ha.2 with e | e
  ·exact hv q (e ▸ hq)
  ·have e':w.heap.size = q:=Option.some.inj (e ▸ hq)
   exact fun k => by have:=l9 q k;omega
theorem Trio.put9 {B:Nat} {v7 v8 v9 v':Value} {ns:List Nd} {xs:List Int} {ds ds':List (Int × Int)} {w w':World} (h:Trio B v7 v8 v9 ns xs ds w) (h':OwnD B v' ds' w') (hb:Below B w w') (ha:Apart v9 v' w w'):Trio B v7 v8 v' ns xs ds' w':=by
 obtain ⟨⟨hB,vals,ho,hn⟩,h8,h9,hu,hv⟩:=h;have l7:=fun q hq => (World.ownsRow.lt ho q hq).2;have l8:=fun q hq => (World.ownsRow.lt h8 q hq).2;refine ⟨⟨Nat.le_trans hB hb.size,vals,own_keep1 ho fun b hb hl => ha.1 b hl fun e => (hu b hb).2 e,fun i hi => (hn i hi).keep (fun b hb' => ⟨⟨hb'.1,hb'.2.1,Nat.lt_of_lt_of_le hb'.2.2.1 hb.size,fun k => ?_⟩,ha.1 b hb'.2.2.1 fun e => hb'.2.2.2 (.inr e)⟩) (fun _ _ _ => rfl)⟩,own_keep1 h8 fun b hb hl => ha.1 b hl fun e => hv b hb e,h',fun q hq => ⟨(hu q hq).1,fun k => ?_⟩,fun q hq k => ?_⟩
 ·rcases k with k | k
  ·exact hb'.2.2.2 (.inl k)
  ·rcases ha.2 with e | e
   ·exact hb'.2.2.2 (.inr (e ▸ k))
   ·have e':w.heap.size = b:=Option.some.inj (e ▸ k)
    have:=hb'.2.2.1;omega
 ·rcases ha.2 with e | e
  ·exact (hu q hq).2 (e ▸ k)
  ·have e':w.heap.size = q:=Option.some.inj (e ▸ k)
   have:=l7 q hq;omega
 ·rcases ha.2 with e | e
  ·exact hv q hq (e ▸ k)
  ·have e':w.heap.size = q:=Option.some.inj (e ▸ k)
   have:=l8 q hq;omega
theorem wp_more_nodes {o:Oper} {a:Act} {w:World} {K:Act → World → Prop} {Q:Exit → Act → World → Prop} (s x:Operand)
  (ho:o.op = .call { callee:=.builtin .append,args:=#[s,x],argTypes:=#[22,22] }) (X:Nat → Prop) (B B0:Nat) (v:Value) (ns ms:List Nd) (A:Option Addr) (m c:Nat)
  (hs:a.eval s = v) (hown:OwnRX X B v ns w) (hx:a.eval x = .slice A m c) (hm:ms.length = m)
  (hms:NodesT (fun b => B0 ≤ b ∧ b < w.heap.size) w A ms) (hB:B ≤ B0) (hv0:∀ k,v.ownBlock = some k → k < B0) (hX:∀ b,B0 ≤ b → ¬ X b) (hb:ns.length + m ≤ 1000000000)
  (h:∀ v' w',Hid (OwnRX X B v' (ns ++ ms) w') → Hid (Below B w w') → Hid (Apart v v' w w') → K (a.put o.dst v') w'):o.wp Tryz.prog a w K Q:=by
 obtain ⟨i0,hi,hz0,hz1,hz2⟩:=info_of info_node;obtain ⟨hBw,vals,hown,hns⟩:=hown;obtain ⟨us,hul,hus,hu1,husrc⟩:=rawT_of hms;subst hm;obtain ⟨v',w',hr,hown',hbel,hap⟩:=run_append_any w B 22 o.type 34 i0 _ 4 80 Tryz.underlying22 hi hz0 hz1 hz2 rfl (by decide) v ns.length vals hown A ms.length c us hul husrc hu1 (by omega) hb hBw
 unfold Oper.wp;simp [execOp,ho,resolve,invoke,builtin,hs,hx,hr,Result.andThen];refine h v' w' (Hh ⟨Nat.le_trans hBw hbel.size,vals ++ us,by rw [List.length_append];exact hown',fun i hi => ?_⟩) (Hh hbel) (Hh hap)
 have hkeep:∀ b,(B ≤ b ∧ v.ownBlock ≠ some b ∧ b < w.heap.size ∧ ¬ X b) → (B ≤ b ∧ v'.ownBlock ≠ some b ∧ b < w'.heap.size ∧ ¬ X b) ∧ w'.heap[b]? = w.heap[b]?:=fun b hb => by
  refine ⟨⟨hb.1,?_,Nat.lt_of_lt_of_le hb.2.2.1 hbel.size,hb.2.2.2⟩,hap.1 b hb.2.2.1 hb.2.1⟩;intro e
  rcases hap.2 with h | h
  ·exact hb.2.1 (h.symm.trans e)
  ·rw [h] at e;cases e;omega
 have hnew:∀ b,(B0 ≤ b ∧ b < w.heap.size) → (B ≤ b ∧ v'.ownBlock ≠ some b ∧ b < w'.heap.size ∧ ¬ X b) ∧ w'.heap[b]? = w.heap[b]?:=fun b hb => hkeep b ⟨by omega,fun e => by have:=hv0 b e;omega,hb.2,hX b hb.1⟩
 have hvl:vals.length = ns.length * 4:=hown.1
 by_cases hik:i < ns.length
 ·have e1:(ns ++ ms).getD i nd0 = ns.getD i nd0:=by simp [List.getD,List.getElem?_append_left hik]
  rw [e1];exact (hns i hik).keep hkeep (fun j h1 h2 => by simp only [List.getD];rw [List.getElem?_append_left (by omega)])
 ·rw [List.length_append] at hi
  obtain ⟨q,rfl⟩:∃ q,i = ns.length + q:=⟨i - ns.length,by omega⟩
  have e1:(ns ++ ms).getD (ns.length + q) nd0 = ms.getD q nd0:=by simp [List.getD,List.getElem?_append_right]
  rw [e1];obtain ⟨A1,c1,A2,c2,A3,c3,p0,p1,p2,p3,n1,n2,n3⟩:=hus q (by omega)
  have e2:∀ r,(vals ++ us).getD ((ns.length + q) * 4 + r) undef = us.getD (q * 4 + r) undef:=fun r => by
   simp only [List.getD];rw [List.getElem?_append_right (by omega),hvl]
   congr 2;omega
  exact ⟨A1,c1,A2,c2,A3,c3,(e2 0).trans p0,(e2 1).trans p1,(e2 2).trans p2,(e2 3).trans p3,n1.keep hnew,n2.keep hnew,n3.keep hnew⟩
theorem wpList_more_nodes {ops:Array Oper} {rest:List Oper} {o:Oper} {a:Act} {w:World} {Q:Exit → Act → World → Prop} (hgd:o.guard = none) (s x:Operand)
  (ho:o.op = .call { callee:=.builtin .append,args:=#[s,x],argTypes:=#[22,22] }) (X:Nat → Prop) (B B0:Nat) (v:Value) (ns ms:List Nd) (A:Option Addr) (m c:Nat)
  (hs:a.eval s = v) (hown:OwnRX X B v ns w) (hx:a.eval x = .slice A m c) (hm:ms.length = m)
  (hms:NodesT (fun b => B0 ≤ b ∧ b < w.heap.size) w A ms) (hB:B ≤ B0) (hv0:∀ k,v.ownBlock = some k → k < B0) (hX:∀ b,B0 ≤ b → ¬ X b) (hb:ns.length + m ≤ 1000000000)
  (h:∀ v' w',Hid (OwnRX X B v' (ns ++ ms) w') → Hid (Below B w w') → Hid (Apart v v' w w') → wpList Tryz.prog ops Q rest (a.put o.dst v') w'):wpList Tryz.prog ops Q (o :: rest) a w :=
 wpList_plain hgd fun K hK => wp_more_nodes s x ho X B B0 v ns ms A m c hs hown hx hm hms hB hv0 hX hb fun v' w' h1 h2 h3 => hK _ _ (h v' w' h1 h2 h3)
open Go.RowKit Go.Lib
def RdP (g:Nat) (ns:List Nd) (o:Option (List Nd × List UInt8)) (w:World) (e:Ending) (w':World):Prop :=
 Below g w w' ∧ match o with
  | none => e = .returned (.bool false)
  | some p => e = .returned (.bool true) ∧ ∃ z,Rd g z (ns ++ p.1) p.2 w'
theorem below_put1 {g:Nat} (w:World) (j:Nat) (v:Value):Below g w (w.setCell ⟨g,j,none⟩ v):=Below.setCell (p:=⟨g,j,none⟩) (Below.refl g w) (Nat.le_refl g) v
theorem OwnRN.own {B:Nat} {v:Value} {ns:List Nd} {w:World} (h:OwnRN B v ns w):∀ q,v.ownBlock = some q → q < w.heap.size:=by
 obtain ⟨_,vals,ho,_⟩:=h;exact fun q hq => (World.ownsRow.lt ho q hq).2
theorem rd_put {g:Nat} {v v':Value} {s:List UInt8} {ms:List Nd} {w:World} (h:AtR g v s w) (ho:OwnRN (g + 1) v' ms w):Rd g w.heap.size ms s (w.setCell ⟨g,0,none⟩ v'):=by
 have hk:Kept (fun k => k = g) w (w.setCell ⟨g,0,none⟩ v'):=(Kept.refl _ _).one _;exact ⟨v',Boxed.put0 h _,ho.kept (by omega) hk,AtR.lt h,hk.size,ho.own⟩
theorem wpList_append_node {ops:Array Oper} {rest:List Oper} {o:Oper} {a:Act} {w:World} {Q:Exit → Act → World → Prop} (hgd:o.guard = none) (s x:Operand)
  (ho:o.op = .call { callee:=.builtin .append,args:=#[s,x],argTypes:=#[22,22] }) (B B0:Nat) (v:Value) (ns:List Nd) (n:Nd) (g:Nat) (A1 A2 A3:Option Addr) (c1 c2 c3:Nat)
  (hs:a.eval s = v) (hown:OwnRN B v ns w) (hx:a.eval x = .slice (some ⟨g,0,none⟩) 1 1) (hbox:BoxN w g n.kind A1 n.shp.length c1 A2 n.ints.length c2 A3 n.decs.length c3)
  (h1:NewN B0 A1 n.shp w) (h2:NewN B0 A2 n.ints w) (h3:NewD B0 A3 n.decs w) (hB:B ≤ B0) (hv0:∀ k,v.ownBlock = some k → k < B0) (hb:ns.length ≤ 1100000)
  (h:∀ v' w',Hid (OwnRN B v' (ns ++ [n]) w') → Hid (Below B w w') → wpList Tryz.prog ops Q rest (a.put o.dst v') w'):wpList Tryz.prog ops Q (o :: rest) a w :=
 wpList_plain hgd fun K hK => wp_append_node s x ho B B0 v ns n g A1 A2 A3 c1 c2 c3 hs hown hx hbox h1 h2 h3 hB hv0 hb fun v' w' k1 k2 => hK _ _ (h v' w' (Hh k1) (Hh k2))
theorem one_node {o:Option Nd} {w w':World} {e:Ending} (h:OneP (fun b => w.heap.size ≤ b) o w e w'):∃ (m:Nd) (β:Bool) (A1:Option Addr) (c1:Nat) (A2:Option Addr) (c2:Nat) (A3:Option Addr) (c3:Nat),
  e = .returned (.tuple #[.agg #[.int .i64 m.kind,.slice A1 m.shp.length c1,.slice A2 m.ints.length c2,.slice A3 m.decs.length c3],.bool β]) ∧ o = (if β = true then some m else none) ∧
  NewN w.heap.size A1 m.shp w' ∧ NewN w.heap.size A2 m.ints w' ∧ NewD w.heap.size A3 m.decs w' ∧ Grow w w':=by
 obtain ⟨hg,h⟩:=h
 cases o with
 | none => exact ⟨⟨0,[],[],[]⟩,false,none,0,none,0,none,0,h,rfl,NumsT.nil_,NumsT.nil_,DecsT.nil_,hg⟩
 | some m =>
  obtain ⟨v,rfl,A1,c1,A2,c2,A3,c3,rfl,h1,h2,h3⟩:=h;exact ⟨m,true,A1,c1,A2,c2,A3,c3,rfl,rfl,h1.lt,h2.lt,h3.lt,hg⟩
def LayF (g:Nat) (v:Value) (ns:List Nd) (t:List UInt8) (nb z:Nat) (m:Nd) (B1 B2 B3:Option Addr) (q0:Int) (q1 d1 q2 d2 q3 d3:Nat) (w:World):Prop :=
 AtR g v t w ∧ OwnRN (g + 1) v ns w ∧ BoxN w nb q0 B1 q1 d1 B2 q2 d2 B3 q3 d3 ∧ NewN z B1 m.shp w ∧ NewN z B2 m.ints w ∧ NewD z B3 m.decs w
theorem LayF.grow {g:Nat} {v:Value} {ns:List Nd} {t:List UInt8} {nb z:Nat} {m:Nd} {B1 B2 B3:Option Addr} {q0:Int} {q1 d1 q2 d2 q3 d3:Nat} {w w':World}
  (h:LayF g v ns t nb z m B1 B2 B3 q0 q1 d1 q2 d2 q3 d3 w) (hg:Grow w w'):LayF g v ns t nb z m B1 B2 B3 q0 q1 d1 q2 d2 q3 d3 w' :=
 ⟨h.1.grow hg,h.2.1.grow hg,h.2.2.1.grow hg,h.2.2.2.1.grow hg,h.2.2.2.2.1.grow hg,h.2.2.2.2.2.grow hg⟩
theorem play_any (g:Nat) (v:Value) (ns:List Nd) (t:List UInt8) (A1:Option Addr) (n1 c1:Nat) (sh:List Int) (A:Option Addr) (n c:Nat) (l:List (Int × Int)) (w:World) (hat:AtR g v t w) (ho:OwnRN (g + 1) v ns w)
  (hs:sh.length = n1) (hs1:n1 ≤ 1100000) (hsh:Nums .i64 w w.heap.size A1 sh) (hn:l.length = n) (hm:n ≤ 1100000) (hi:∀ x ∈ l,In x.1 ∧ In x.2) (hr:Decs w w.heap.size A l) (hns:ns.length ≤ 1100000) :
  Calls Tryz.prog 52 #[.pointer (some ⟨g,0,none⟩),.slice A1 n1 c1,.slice A n c] w (RdP g ns (layP sh l t) w):=by
 have HC:=Hh (tnumbers_any A1 n1 c1 sh A n c l w hs hs1 hsh hn hm hi hr);have HAT:=Hh hat;have HO:=Hh ho;clear hs hsh hn hi hr hat ho
 go_enter Tryz.func52,Tryz.ntmps52
 go_wp2_with fail;refine (HC.out).mono ?_;rintro e w1 he;obtain ⟨m,β,B1,d1,B2,d2,B3,d3,rfl,hβ,k1,k2,k3,hg1⟩:=one_node he;have HB:=Hh hβ;have HK:=Hh (show NewN w.heap.size B1 m.shp w1 ∧ NewN w.heap.size B2 m.ints w1 ∧ NewD w.heap.size B3 m.decs w1 from ⟨k1,k2,k3⟩);have HG1:=Hh hg1;have HBX:=Hh (boxN_new w1 m.kind B1 m.shp.length d1 B2 m.ints.length d2 B3 m.decs.length d3);have HGN:=Hh (grow_new w1 (.cells #[.int .i64 m.kind,.slice B1 m.shp.length d1,.slice B2 m.ints.length d2,.slice B3 m.decs.length d3] 34));obtain ⟨q1,hq1⟩:∃ q1,m.shp.length = q1:=⟨_,rfl⟩;obtain ⟨q2,hq2⟩:∃ q2,m.ints.length = q2:=⟨_,rfl⟩;obtain ⟨q3,hq3⟩:∃ q3,m.decs.length = q3:=⟨_,rfl⟩;obtain ⟨q0,hq0⟩:∃ q0,m.kind = q0:=⟨_,rfl⟩;have HQ:=Hh (show m.kind = q0 ∧ m.shp.length = q1 ∧ m.ints.length = q2 ∧ m.decs.length = q3 from ⟨hq0,hq1,hq2,hq3⟩);rw [hq0,hq1,hq2,hq3] at HBX HGN;simp only [hq0,hq1,hq2,hq3];obtain ⟨nb,hnb⟩:∃ nb,w1.heap.size = nb:=⟨_,rfl⟩;have HNB:=Hh hnb;rw [hnb] at HBX;have HF:Hid (LayF g v ns t nb w.heap.size m B1 B2 B3 q0 q1 d1 q2 d2 q3 d3 (w1.alloc (.cells #[.int .i64 q0,.slice B1 q1 d1,.slice B2 q2 d2,.slice B3 q3 d3] 34))) :=
  Hh ⟨(HAT.out.grow hg1).grow HGN.out,(HO.out.grow hg1).grow HGN.out,HBX.out,k1.grow HGN.out,k2.grow HGN.out,k3.grow HGN.out⟩
 have hgw:g < w.heap.size:=AtR.lt HAT.out;have hvz:=HO.out.own;have HVZ:=Hh hvz;have HGA:Hid (Below g w (w1.alloc (.cells #[.int .i64 q0,.slice B1 q1 d1,.slice B2 q2 d2,.slice B3 q3 d3] 34))):=Hh (Below.mono (hg1.trans HGN.out) (Nat.le_of_lt hgw));clear he hβ k1 k2 k3 hg1 hq0 hq1 hq2 hq3 HC HK HG1 HBX HGN hnb hvz HAT HO;go_wp2;rw [HNB.out];generalize w1.alloc (.cells #[.int .i64 q0,.slice B1 q1 d1,.slice B2 q2 d2,.slice B3 q3 d3] 34) = w2 at HF HGA ⊢;refine wp_region_R ((Below g)) (n:=11) rfl (by kernel_rfl) ?_
 intro W0 hW0e hW0;have HF0:LayF g v ns t nb w.heap.size m B1 B2 B3 q0 q1 d1 q2 d2 q3 d3 W0:=HF.out.grow hW0;have HGW0:Hid (Below g w W0):=Hh (Below.trans HGA.out (Below.mono hW0 (by have:=HF.out.1.lt;omega)))
 have HGS:Hid (g ≤ W0.heap.size):=Hh (Nat.le_of_lt HF0.1.lt);clear hW0e;refine wpR_take (belowOrd g) (i:=0) (v:=?vf1) rfl (by kernel_rfl) (by kernel_rfl) (by kernel_rfl) (fun _ _ _ h => h) (by rfl) ?hf1 ?rf1
 case hf1 => (intro wg hSw;go_simp <;> with_reducible rfl)
 simp only [Act.put,List.setIfInBounds_toArray,List.set_cons_zero,List.set_cons_succ];refine wpR_take (belowOrd g) (i:=1) (v:=?vf2) rfl (by kernel_rfl) (by kernel_rfl) (by kernel_rfl) (fun _ _ _ h => h) (by rfl) ?hf2 ?rf2
 case hf2 => (intro wg hSw;go_simp <;> with_reducible rfl)
 simp only [Act.put,List.setIfInBounds_toArray,List.set_cons_zero,List.set_cons_succ];refine wpR_take (belowOrd g) (i:=2) (v:=?vf3) rfl (by kernel_rfl) (by kernel_rfl) (by kernel_rfl) (fun _ _ _ h => h) (by rfl) ?hf3 ?rf3
 case hf3 => (intro wg hSw;go_simp <;> with_reducible rfl)
 simp only [Act.put,List.setIfInBounds_toArray,List.set_cons_zero,List.set_cons_succ];refine wpR_take (belowOrd g) (i:=3) (v:=?vf4) rfl (by kernel_rfl) (by kernel_rfl) (by kernel_rfl) (fun _ _ _ h => h) (by rfl) ?hf4 ?rf4
 case hf4 => (intro wg hSw;go_simp <;> with_reducible rfl)
 simp only [Act.put,List.setIfInBounds_toArray,List.set_cons_zero,List.set_cons_succ];refine wpR_two (i:=4) (j:=5) (by kernel_rfl) ?_ ?_
 ·refine wpR_op (i:=4) rfl (by rfl) (fun K hK => ?_)
  have hc4:=Boxed.fst (HF0).1;go_simp;refine hK.out _ _ (Below.refl _ _) ?_;clear hK K hc4
  try simp only [Act.put,List.setIfInBounds_toArray,List.set_cons_zero,List.set_cons_succ]
  obtain ⟨wM4,hwM4⟩:∃ wM4,wM4 = W0:=⟨_,rfl⟩;have hN4:Grow W0 wM4:=by rw [hwM4];exact Grow.refl _
  have hM4:Below g W0 wM4:=by rw [hwM4];exact Below.refl _ _
  rw [← hwM4];clear hwM4;refine wpR_one (i:=5) (by kernel_rfl) ?_
  refine wpR_op (i:=5) rfl (by rfl) (fun K hK => ?_)
  have hc5:=((HF0.grow hN4)).2.2.1.at0;have hc6:=((HF0.grow hN4)).2.2.1.at1;have hc7:=((HF0.grow hN4)).2.2.1.at2;have hc8:=((HF0.grow hN4)).2.2.1.at3;go_simp;refine hK.out _ _ (Below.refl _ _) ?_;clear hK K hc5 hc6 hc7 hc8
  try simp only [Act.put,List.setIfInBounds_toArray,List.set_cons_zero,List.set_cons_succ]
  obtain ⟨wM5,hwM5⟩:∃ wM5,wM5 = wM4:=⟨_,rfl⟩;have hN5:Grow wM4 wM5:=by rw [hwM5];exact Grow.refl _
  have hM5:Below g wM4 wM5:=by rw [hwM5];exact Below.refl _ _
  rw [← hwM5];clear hwM5;refine wpR_one (i:=6) (by kernel_rfl) ?_
  refine wpR_op (i:=6) rfl (by rfl) (fun K hK => ?_)
  go_simp;refine hK.out _ _ (Below.mono (grow_new _ _) (Nat.le_trans HGS.out ((((belowOrd g)).trans (((belowOrd g)).trans (((belowOrd g)).refl W0) hM4) hM5)).size)) ?_;clear hK K
  try simp only [Act.put,List.setIfInBounds_toArray,List.set_cons_zero,List.set_cons_succ]
  obtain ⟨sb,hsb⟩:∃ sb,(wM5).heap.size = sb:=⟨_,rfl⟩;have hbs:=boxN_new wM5 q0 B1 q1 d1 B2 q2 d2 B3 q3 d3;have hN6:=grow_new wM5 (.cells #[.int .i64 q0,.slice B1 q1 d1,.slice B2 q2 d2,.slice B3 q3 d3] 34);rw [hsb] at hbs ⊢;generalize hwM6:World.alloc wM5 (Obj.cells #[.int .i64 q0,.slice B1 q1 d1,.slice B2 q2 d2,.slice B3 q3 d3] 34) = wM6 at *;have hC6:BoxN wM6 sb q0 B1 q1 d1 B2 q2 d2 B3 q3 d3:=hbs;have hM6:Below g wM5 wM6:=Below.mono hN6 (Nat.le_trans HGS.out ((((belowOrd g)).trans (((belowOrd g)).trans (((belowOrd g)).refl W0) hM4) hM5)).size);clear hwM6 hsb hbs;refine wpR_one (i:=7) (by kernel_rfl) ?_
  refine wpR_op (i:=7) rfl (by rfl) (fun K hK => ?_)
  have hf7:=(((HF0.grow hN4).grow hN5).grow hN6);refine wp_append_node _ _ rfl (g + 1) w.heap.size v ns m sb B1 B2 B3 d1 d2 d3 rfl hf7.2.1 rfl (by rw [HQ.out.1,HQ.out.2.1,HQ.out.2.2.1,HQ.out.2.2.2];exact hC6) hf7.2.2.2.1 hf7.2.2.2.2.1 hf7.2.2.2.2.2 (by omega) HVZ.out hns ?_
  intro v7 wM7 hO7 hB7;have hA7:Hid (AtR g v t wM7):=Hh ((hB7.block g (by omega)).trans hf7.1)
  have hM7:Below g wM6 wM7:=Below.mono hB7 (by omega)
  have hN7:=hM7;refine hK.out _ _ hM7 ?_;clear hK K;obtain ⟨A7,c7,hv7,-,-⟩:=hO7.nodes;subst hv7;obtain ⟨n7,hn7⟩:∃ n7,(ns ++ [m]).length = n7:=⟨_,rfl⟩;have HO7:=Hh hO7;rw [hn7] at HO7 ⊢;clear hO7 hB7 hn7
  try simp only [Act.put,List.setIfInBounds_toArray,List.set_cons_zero,List.set_cons_succ]
  refine wpR_take (belowOrd g) (i:=8) (v:=?vf5) rfl (by kernel_rfl) (by kernel_rfl) (by kernel_rfl) (fun _ _ _ h => h) (by rfl) ?hf5 ?rf5
  case hf5 => (intro wg hSw;go_simp <;> with_reducible rfl)
  simp only [Act.put,List.setIfInBounds_toArray,List.set_cons_zero,List.set_cons_succ];refine wpR_take (belowOrd g) (i:=9) (v:=?vf6) rfl (by kernel_rfl) (by kernel_rfl) (by kernel_rfl) (fun _ _ _ h => h) (by rfl) ?hf6 ?rf6
  case hf6 => (intro wg hSw;go_simp <;> with_reducible rfl)
  simp only [Act.put,List.setIfInBounds_toArray,List.set_cons_zero,List.set_cons_succ];refine wpR_one (i:=10) (by kernel_rfl) ?_
  refine wpR_op (i:=10) rfl (by rfl) (fun K hK => ?_)
  have hfz:=Boxed.froz hA7.out 0;have hc10:=Boxed.fst hA7.out;go_simp;refine hK.out _ _ (below_put1 _ _ _) ?_;clear hK K hfz hc10
  try simp only [Act.put,List.setIfInBounds_toArray,List.set_cons_zero,List.set_cons_succ]
  have hRD:=Hh (rd_put hA7.out HO7.out);generalize hwM10:World.setCell wM7 ⟨g,0,none⟩ (.slice A7 n7 c7) = wM10 at *;have hM10:Below g wM7 wM10:=by rw [← hwM10];exact below_put1 _ _ _
  have hN10:=hM10;clear hwM10;refine wpR_done (by kernel_rfl) ?_
  have HGW:=Hh (Below.trans HGW0.out (((belowOrd g)).trans (((belowOrd g)).trans (((belowOrd g)).trans (((belowOrd g)).trans (((belowOrd g)).trans (((belowOrd g)).refl W0) hM4) hM5) hM6) hM7) hM10));go_wp2;go_ret;refine ⟨HGW.out,?_⟩;unfold layP;rw [HB.out]
  cases β with
  | false => rfl
  | true => exact ⟨rfl,_,hRD.out⟩
 ·refine wpR_op (i:=5) rfl (by rfl) (fun K hK => ?_)
  have hc5:=(HF0).2.2.1.at0;have hc6:=(HF0).2.2.1.at1;have hc7:=(HF0).2.2.1.at2;have hc8:=(HF0).2.2.1.at3;go_simp;refine hK.out _ _ (Below.refl _ _) ?_;clear hK K hc5 hc6 hc7 hc8
  try simp only [Act.put,List.setIfInBounds_toArray,List.set_cons_zero,List.set_cons_succ]
  obtain ⟨wM5,hwM5⟩:∃ wM5,wM5 = W0:=⟨_,rfl⟩;have hN5:Grow W0 wM5:=by rw [hwM5];exact Grow.refl _
  have hM5:Below g W0 wM5:=by rw [hwM5];exact Below.refl _ _
  rw [← hwM5];clear hwM5;refine wpR_two (i:=4) (j:=6) (by kernel_rfl) ?_ ?_
  ·refine wpR_op (i:=4) rfl (by rfl) (fun K hK => ?_)
   have hc4:=Boxed.fst ((HF0.grow hN5)).1;go_simp;refine hK.out _ _ (Below.refl _ _) ?_;clear hK K hc4
   try simp only [Act.put,List.setIfInBounds_toArray,List.set_cons_zero,List.set_cons_succ]
   obtain ⟨wM4,hwM4⟩:∃ wM4,wM4 = wM5:=⟨_,rfl⟩;have hN4:Grow wM5 wM4:=by rw [hwM4];exact Grow.refl _
   have hM4:Below g wM5 wM4:=by rw [hwM4];exact Below.refl _ _
   rw [← hwM4];clear hwM4;refine wpR_one (i:=6) (by kernel_rfl) ?_
   refine wpR_op (i:=6) rfl (by rfl) (fun K hK => ?_)
   go_simp;refine hK.out _ _ (Below.mono (grow_new _ _) (Nat.le_trans HGS.out ((((belowOrd g)).trans (((belowOrd g)).trans (((belowOrd g)).refl W0) hM5) hM4)).size)) ?_;clear hK K
   try simp only [Act.put,List.setIfInBounds_toArray,List.set_cons_zero,List.set_cons_succ]
   obtain ⟨sb,hsb⟩:∃ sb,(wM4).heap.size = sb:=⟨_,rfl⟩;have hbs:=boxN_new wM4 q0 B1 q1 d1 B2 q2 d2 B3 q3 d3;have hN6:=grow_new wM4 (.cells #[.int .i64 q0,.slice B1 q1 d1,.slice B2 q2 d2,.slice B3 q3 d3] 34);rw [hsb] at hbs ⊢;generalize hwM6:World.alloc wM4 (Obj.cells #[.int .i64 q0,.slice B1 q1 d1,.slice B2 q2 d2,.slice B3 q3 d3] 34) = wM6 at *;have hC6:BoxN wM6 sb q0 B1 q1 d1 B2 q2 d2 B3 q3 d3:=hbs;have hM6:Below g wM4 wM6:=Below.mono hN6 (Nat.le_trans HGS.out ((((belowOrd g)).trans (((belowOrd g)).trans (((belowOrd g)).refl W0) hM5) hM4)).size);clear hwM6 hsb hbs;refine wpR_one (i:=7) (by kernel_rfl) ?_
   refine wpR_op (i:=7) rfl (by rfl) (fun K hK => ?_)
   have hf7:=(((HF0.grow hN5).grow hN4).grow hN6);refine wp_append_node _ _ rfl (g + 1) w.heap.size v ns m sb B1 B2 B3 d1 d2 d3 rfl hf7.2.1 rfl (by rw [HQ.out.1,HQ.out.2.1,HQ.out.2.2.1,HQ.out.2.2.2];exact hC6) hf7.2.2.2.1 hf7.2.2.2.2.1 hf7.2.2.2.2.2 (by omega) HVZ.out hns ?_
   intro v7 wM7 hO7 hB7;have hA7:Hid (AtR g v t wM7):=Hh ((hB7.block g (by omega)).trans hf7.1)
   have hM7:Below g wM6 wM7:=Below.mono hB7 (by omega)
   have hN7:=hM7;refine hK.out _ _ hM7 ?_;clear hK K;obtain ⟨A7,c7,hv7,-,-⟩:=hO7.nodes;subst hv7;obtain ⟨n7,hn7⟩:∃ n7,(ns ++ [m]).length = n7:=⟨_,rfl⟩;have HO7:=Hh hO7;rw [hn7] at HO7 ⊢;clear hO7 hB7 hn7
   try simp only [Act.put,List.setIfInBounds_toArray,List.set_cons_zero,List.set_cons_succ]
   refine wpR_take (belowOrd g) (i:=8) (v:=?vf7) rfl (by kernel_rfl) (by kernel_rfl) (by kernel_rfl) (fun _ _ _ h => h) (by rfl) ?hf7 ?rf7
   case hf7 => (intro wg hSw;go_simp <;> with_reducible rfl)
   simp only [Act.put,List.setIfInBounds_toArray,List.set_cons_zero,List.set_cons_succ];refine wpR_take (belowOrd g) (i:=9) (v:=?vf8) rfl (by kernel_rfl) (by kernel_rfl) (by kernel_rfl) (fun _ _ _ h => h) (by rfl) ?hf8 ?rf8
   case hf8 => (intro wg hSw;go_simp <;> with_reducible rfl)
   simp only [Act.put,List.setIfInBounds_toArray,List.set_cons_zero,List.set_cons_succ];refine wpR_one (i:=10) (by kernel_rfl) ?_
   refine wpR_op (i:=10) rfl (by rfl) (fun K hK => ?_)
   have hfz:=Boxed.froz hA7.out 0;have hc10:=Boxed.fst hA7.out;go_simp;refine hK.out _ _ (below_put1 _ _ _) ?_;clear hK K hfz hc10
   try simp only [Act.put,List.setIfInBounds_toArray,List.set_cons_zero,List.set_cons_succ]
   have hRD:=Hh (rd_put hA7.out HO7.out);generalize hwM10:World.setCell wM7 ⟨g,0,none⟩ (.slice A7 n7 c7) = wM10 at *;have hM10:Below g wM7 wM10:=by rw [← hwM10];exact below_put1 _ _ _
   have hN10:=hM10;clear hwM10;refine wpR_done (by kernel_rfl) ?_
   have HGW:=Hh (Below.trans HGW0.out (((belowOrd g)).trans (((belowOrd g)).trans (((belowOrd g)).trans (((belowOrd g)).trans (((belowOrd g)).trans (((belowOrd g)).refl W0) hM5) hM4) hM6) hM7) hM10));go_wp2;go_ret;refine ⟨HGW.out,?_⟩;unfold layP;rw [HB.out]
   cases β with
   | false => rfl
   | true => exact ⟨rfl,_,hRD.out⟩
  ·refine wpR_op (i:=6) rfl (by rfl) (fun K hK => ?_)
   go_simp;refine hK.out _ _ (Below.mono (grow_new _ _) (Nat.le_trans HGS.out ((((belowOrd g)).trans (((belowOrd g)).refl W0) hM5)).size)) ?_;clear hK K
   try simp only [Act.put,List.setIfInBounds_toArray,List.set_cons_zero,List.set_cons_succ]
   obtain ⟨sb,hsb⟩:∃ sb,(wM5).heap.size = sb:=⟨_,rfl⟩;have hbs:=boxN_new wM5 q0 B1 q1 d1 B2 q2 d2 B3 q3 d3;have hN6:=grow_new wM5 (.cells #[.int .i64 q0,.slice B1 q1 d1,.slice B2 q2 d2,.slice B3 q3 d3] 34);rw [hsb] at hbs ⊢;generalize hwM6:World.alloc wM5 (Obj.cells #[.int .i64 q0,.slice B1 q1 d1,.slice B2 q2 d2,.slice B3 q3 d3] 34) = wM6 at *;have hC6:BoxN wM6 sb q0 B1 q1 d1 B2 q2 d2 B3 q3 d3:=hbs;have hM6:Below g wM5 wM6:=Below.mono hN6 (Nat.le_trans HGS.out ((((belowOrd g)).trans (((belowOrd g)).refl W0) hM5)).size);clear hwM6 hsb hbs;refine wpR_one (i:=4) (by kernel_rfl) ?_
   refine wpR_op (i:=4) rfl (by rfl) (fun K hK => ?_)
   have hc4:=Boxed.fst (((HF0.grow hN5).grow hN6)).1;go_simp;refine hK.out _ _ (Below.refl _ _) ?_;clear hK K hc4
   try simp only [Act.put,List.setIfInBounds_toArray,List.set_cons_zero,List.set_cons_succ]
   obtain ⟨wM4,hwM4⟩:∃ wM4,wM4 = wM6:=⟨_,rfl⟩;have hN4:Grow wM6 wM4:=by rw [hwM4];exact Grow.refl _
   have hM4:Below g wM6 wM4:=by rw [hwM4];exact Below.refl _ _
   rw [← hwM4];clear hwM4;refine wpR_one (i:=7) (by kernel_rfl) ?_
   refine wpR_op (i:=7) rfl (by rfl) (fun K hK => ?_)
   have hf7:=(((HF0.grow hN5).grow hN6).grow hN4);refine wp_append_node _ _ rfl (g + 1) w.heap.size v ns m sb B1 B2 B3 d1 d2 d3 rfl hf7.2.1 rfl (by rw [HQ.out.1,HQ.out.2.1,HQ.out.2.2.1,HQ.out.2.2.2];exact (hC6.grow hN4)) hf7.2.2.2.1 hf7.2.2.2.2.1 hf7.2.2.2.2.2 (by omega) HVZ.out hns ?_
   intro v7 wM7 hO7 hB7;have hA7:Hid (AtR g v t wM7):=Hh ((hB7.block g (by omega)).trans hf7.1)
   have hM7:Below g wM4 wM7:=Below.mono hB7 (by omega)
   have hN7:=hM7;refine hK.out _ _ hM7 ?_;clear hK K;obtain ⟨A7,c7,hv7,-,-⟩:=hO7.nodes;subst hv7;obtain ⟨n7,hn7⟩:∃ n7,(ns ++ [m]).length = n7:=⟨_,rfl⟩;have HO7:=Hh hO7;rw [hn7] at HO7 ⊢;clear hO7 hB7 hn7
   try simp only [Act.put,List.setIfInBounds_toArray,List.set_cons_zero,List.set_cons_succ]
   refine wpR_take (belowOrd g) (i:=8) (v:=?vf9) rfl (by kernel_rfl) (by kernel_rfl) (by kernel_rfl) (fun _ _ _ h => h) (by rfl) ?hf9 ?rf9
   case hf9 => (intro wg hSw;go_simp <;> with_reducible rfl)
   simp only [Act.put,List.setIfInBounds_toArray,List.set_cons_zero,List.set_cons_succ];refine wpR_take (belowOrd g) (i:=9) (v:=?vf10) rfl (by kernel_rfl) (by kernel_rfl) (by kernel_rfl) (fun _ _ _ h => h) (by rfl) ?hf10 ?rf10
   case hf10 => (intro wg hSw;go_simp <;> with_reducible rfl)
   simp only [Act.put,List.setIfInBounds_toArray,List.set_cons_zero,List.set_cons_succ];refine wpR_one (i:=10) (by kernel_rfl) ?_
   refine wpR_op (i:=10) rfl (by rfl) (fun K hK => ?_)
   have hfz:=Boxed.froz hA7.out 0;have hc10:=Boxed.fst hA7.out;go_simp;refine hK.out _ _ (below_put1 _ _ _) ?_;clear hK K hfz hc10
   try simp only [Act.put,List.setIfInBounds_toArray,List.set_cons_zero,List.set_cons_succ]
   have hRD:=Hh (rd_put hA7.out HO7.out);generalize hwM10:World.setCell wM7 ⟨g,0,none⟩ (.slice A7 n7 c7) = wM10 at *;have hM10:Below g wM7 wM10:=by rw [← hwM10];exact below_put1 _ _ _
   have hN10:=hM10;clear hwM10;refine wpR_done (by kernel_rfl) ?_
   have HGW:=Hh (Below.trans HGW0.out (((belowOrd g)).trans (((belowOrd g)).trans (((belowOrd g)).trans (((belowOrd g)).trans (((belowOrd g)).trans (((belowOrd g)).refl W0) hM5) hM6) hM4) hM7) hM10));go_wp2;go_ret;refine ⟨HGW.out,?_⟩;unfold layP;rw [HB.out]
   cases β with
   | false => rfl
   | true => exact ⟨rfl,_,hRD.out⟩
open Go.RowKit Go.Lib
theorem quotN_le (s:List UInt8):quotN s ≤ s.length:=by
 unfold quotN;split <;> omega
theorem NumsT.newN {z:Nat} {w:World} {A:Option Addr} {xs:List Int} (h:NumsT (fun b => z ≤ b) w A xs):NewN z A xs w:=NumsT.lt h
theorem psigns_any (g z:Nat) (v:Value) (ns:List Nd) (t:List UInt8) (A1:Option Addr) (n1 c1:Nat) (sh:List Int) (w:World) (hat:AtR g v t w) (ho:OwnRN (g + 1) v ns w) (hz:g < z) (hzw:z ≤ w.heap.size) (hvz:∀ b,v.ownBlock = some b → b < z)
  (hs:sh.length = n1) (hsh:NumsT (fun b => z ≤ b) w A1 sh) (h1:1 ≤ t.length) (hl:t.length ≤ 100000) (hL:LaidG g w) (hns:ns.length ≤ 1100000) :
  Calls Tryz.prog 50 #[.pointer (some ⟨g,0,none⟩),.slice A1 n1 c1] w (RdP g ns (signsP sh t) w):=by
 have HAT:=Hh hat;have HO:=Hh ho;have HSH:=Hh hsh;have HS:=Hh hs;have HL:=Hh hL;have HV:=Hh hvz;have HQ:=Hh (quoted_any t w h1 hl);obtain ⟨k,hk⟩:∃ k,quotN t = k:=⟨_,rfl⟩;have HK:=Hh hk;have hkl:k ≤ t.length:=by rw [← hk];exact quotN_le t
 rw [hk] at HQ;have HCUT:=Hh (cut_any' g v t k w hat hkl);have HRD:=Hh (fun W hW => Quo.read_any (t.take k) (by rw [List.length_take];omega) W hW)
 have hd1:=Boxed.snd hat;have hgw:=hat.lt;obtain ⟨S,hS⟩:∃ S,(⟨t.toArray⟩:ByteArray) = S:=⟨_,rfl⟩;obtain ⟨Z,hZ⟩:∃ Z,(⟨(t.take k).toArray⟩:ByteArray) = Z:=⟨_,rfl⟩;rw [hS] at hd1 HQ;rw [hZ] at HCUT HRD;have HM:Hid (signsP sh t = (Quo.readQ (t.take k)).map fun p => ([⟨3,sh,Quo.intsZ p.1,[]⟩],t.drop k)):=Hh (by unfold signsP;rw [hk])
 obtain ⟨⟨xs,r,ok⟩,hm⟩:∃ m,Quo.mkL (Quo.readQ (t.take k)) = m:=⟨_,rfl⟩;rw [hm] at HRD;have HM2:=Hh hm;clear hat ho hsh hs hL hvz hk hS hZ hm
 go_enter Tryz.func50,Tryz.ntmps50
 go_wp2_with fail;refine (HQ.out).mono ?_;rintro e w ⟨rfl,rfl⟩;go_wp2_with fail;refine (HCUT.out).mono ?_;rintro e w1 ⟨rfl,hst⟩;have HST:=Hh hst;have HL1:=Hh (HL.out.step hst.2 (Nat.le_of_lt hgw));have HO1:=Hh (HO.out.kept (by omega) hst.2)
 clear hst;go_wp2_with fail;refine (HRD.out _ HL1.out.now.2).mono ?_;rintro e w2 ⟨A2,c2,rfl,_,hxs,hg2⟩;have HSH1:NumsT (fun b => z ≤ b) w1 A1 sh:=HSH.out.lt.keep fun b hb => ⟨hb.1,HST.out.2.block b hb.2 (by have:=hb.1;omega)⟩
 have HST2:=Hh (HST.out.grow hg2);have HO2:=Hh (HO1.out.grow hg2);have HX2:=Hh hxs;have HSH2:Hid (NumsT (fun b => z ≤ b) w2 A1 sh):=Hh (NumsT.grow HSH1 hg2);have HZ1:Hid (z ≤ w1.heap.size):=Hh (Nat.le_trans hzw HST.out.2.size);clear hxs hg2 HSH1 HST HO1 HL1 HL HQ HCUT HRD HO hd1 HSH;have hc2:=Boxed.fst HST2.out.1;have hf2:=Boxed.froz HST2.out.1 0;obtain ⟨l2,hl2⟩:∃ l2,xs.length = l2:=⟨_,rfl⟩;have HLX:=Hh hl2;simp only [hl2];clear hl2;have hgn:=grow_new w2 (.cells #[.int .i64 3,.slice A1 n1 c1,.slice A2 l2 c2,.slice none 0 0] 34);have HGN:=Hh hgn;have HB3:Hid (BoxN (w2.alloc (.cells #[.int .i64 3,.slice A1 n1 c1,.slice A2 l2 c2,.slice none 0 0] 34)) w2.heap.size 3 A1 sh.length c1 A2 xs.length c2 none 0 0):=Hh (by rw [HS.out,HLX.out];exact boxN_new _ _ _ _ _ _ _ _ _ _ _)
 have HO3:=Hh (HO2.out.grow hgn);have HN1:=Hh ((HSH2.out.newN).grow hgn);have HN2:Hid (NewN z A2 xs (w2.alloc (.cells #[.int .i64 3,.slice A1 n1 c1,.slice A2 l2 c2,.slice none 0 0] 34))):=Hh (NewN.grow (HX2.out.keep fun b hb => ⟨⟨Nat.le_trans HZ1.out hb.1,hb.2⟩,rfl⟩) hgn);have HST3:=Hh (HST2.out.grow hgn);have hbw:Hid (Below g w (w2.alloc (.cells #[.int .i64 3,.slice A1 n1 c1,.slice A2 l2 c2,.slice none 0 0] 34))):=Hh (below_kept HST3.out.2 (Nat.le_of_lt hgw));clear hgn HX2 HSH2 HO2 HST2;go_wp2_with (at_builtin;refine wpList_append_node rfl _ _ rfl (g + 1) z v ns ⟨3,sh,xs,[]⟩ w2.heap.size A1 A2 none c1 c2 0 rfl HO3.out rfl HB3.out HN1.out HN2.out DecsT.nil_ (by omega) HV.out hns ?_;intro v7 w7 hO7 hB7;obtain ⟨A7,c7,hv7,-,-⟩:=hO7.out.nodes;subst hv7;have hA7:Hid (AtR g v (t.drop k) w7):=Hh ((hB7.out.block g (by omega)).trans HST3.out.1);have hc7:=Boxed.fst hA7.out;have hf7:=Boxed.froz hA7.out 0;generalize hn7:(ns ++ [(⟨3,sh,xs,[]⟩:Nd)]).length = n7 at hO7)
 have hRD:=Hh (rd_put hA7.out hO7.out);have hB8:=Hh (Below.trans hbw.out (Below.trans (Below.mono hB7.out (by omega)) (below_put1 w7 0 (.slice A7 n7 c7))))
 go_ret;refine ⟨hB8.out,?_⟩;rw [HM.out]
 cases hq:Quo.readQ (t.take k) with
 | none =>
  rw [hq] at HM2;have:=HM2.out;simp only [Quo.mkL,Prod.mk.injEq] at this;rw [← this.2.2];rfl
 | some p =>
  rw [hq] at HM2;have:=HM2.out;simp only [Quo.mkL,Prod.mk.injEq] at this;rw [← this.2.2];refine ⟨rfl,w7.heap.size,?_⟩;simp only;rw [this.1];exact hRD.out
open Go.RowKit Go.Lib
def WholeP (o:Option (List Int)) (w:World) (e:Ending) (w':World):Prop :=
 Grow w w' ∧ match o with
  | none => ∃ x,e = .returned (.tuple #[x,.bool false])
  | some s => ∃ A c,e = .returned (.tuple #[.slice A s.length c,.bool true]) ∧ NewN w.heap.size A s w'
theorem pwhole_any (A:Option Addr) (n c:Nat) (l:List (Int × Int)) (w:World) (hn:l.length = n) (hm:n ≤ 1100000) (hi:∀ x ∈ l,In x.1 ∧ In x.2) (hr:Decs w w.heap.size A l) :
  Calls Tryz.prog 53 #[.slice A n c] w (WholeP (wholeP l) w):=by
 have hg0:=grow_new w (.cells #[.int .i64 ((n:Nat):Int)] 3);have hnl:Nums .i64 (w.alloc (.cells #[.int .i64 ((n:Nat):Int)] 3)) (w.alloc (.cells #[.int .i64 ((n:Nat):Int)] 3)).heap.size (some ⟨w.heap.size,0,none⟩) [((n:Nat):Int)]:=Quo.nums_lit1 _ _ _;have HC:=Hh (tnumbers_any (some ⟨w.heap.size,0,none⟩) 1 1 [((n:Nat):Int)] A n c l _ rfl (by decide) hnl hn hm hi (hr.grow hg0))
 have HW:Hid (wholeP l = (numO [((n:Nat):Int)] l).bind fun m => if m.kind = 4 then none else some m.ints):=Hh (by unfold wholeP;rw [hn])
 have HG0:=Hh hg0;clear hn hi hr hnl hg0
 go_enter Tryz.func53,Tryz.ntmps53
 go_wp2_with fail;refine (HC.out).mono ?_;rintro e w1 he;obtain ⟨m,β,B1,d1,B2,d2,B3,d3,rfl,hβ,k1,k2,k3,hg1⟩:=one_node he;have HB:=Hh hβ;obtain ⟨q1,hq1⟩:∃ q1,m.shp.length = q1:=⟨_,rfl⟩;obtain ⟨q2,hq2⟩:∃ q2,m.ints.length = q2:=⟨_,rfl⟩;obtain ⟨q3,hq3⟩:∃ q3,m.decs.length = q3:=⟨_,rfl⟩;obtain ⟨q0,hq0⟩:∃ q0,m.kind = q0:=⟨_,rfl⟩;have HQ:=Hh (show m.kind = q0 ∧ m.ints.length = q2 from ⟨hq0,hq2⟩);have HBX:=Hh (boxN_new w1 q0 B1 q1 d1 B2 q2 d2 B3 q3 d3);have hgn:=grow_new w1 (.cells #[.int .i64 q0,.slice B1 q1 d1,.slice B2 q2 d2,.slice B3 q3 d3] 34);have HGA:=Hh ((HG0.out.trans hg1).trans hgn);have HN2:Hid (NewN w.heap.size B2 m.ints (w1.alloc (.cells #[.int .i64 q0,.slice B1 q1 d1,.slice B2 q2 d2,.slice B3 q3 d3] 34))):=Hh (NewN.grow (k2.keep fun b hb => ⟨⟨Nat.le_trans HG0.out.size hb.1,hb.2⟩,rfl⟩) hgn);simp only [hq0,hq1,hq2,hq3];clear he hβ k1 k2 k3 hg1 hq0 hq1 hq2 hq3 HC hgn HG0;obtain ⟨nb,hnb⟩:∃ nb,w1.heap.size = nb:=⟨_,rfl⟩;have HNB:=Hh hnb;rw [hnb] at HBX;clear hnb;go_wp2;rw [HNB.out];generalize w1.alloc (.cells #[.int .i64 q0,.slice B1 q1 d1,.slice B2 q2 d2,.slice B3 q3 d3] 34) = w2 at HBX HGA HN2 ⊢;have b0:=HBX.out.at0;have b2:=HBX.out.at2
 cases β with
 | false =>
  have HV:Hid (wholeP l = none):=Hh (by rw [HW.out,HB.out];rfl)
  go_quiet (fail)
  go_wp2;go_ret2;exact ⟨HGA.out.drewN _,by rw [HV.out];exact ⟨_,rfl⟩⟩
 | true =>
  have hb:=HB.out;rw [if_pos rfl] at hb
  by_cases h4:q0 = 4
  ·have hd:(q0 != 4) = false:=by rw [h4];rfl
   have HV:Hid (wholeP l = none):=Hh (by rw [HW.out,hb,Option.bind_some,if_pos (by rw [HQ.out.1,h4])])
   clear hb h4
   go_quiet (fail)
   go_wp2;go_ret2;exact ⟨HGA.out.drewN _,by rw [HV.out];exact ⟨_,rfl⟩⟩
  ·have hd:(q0 != 4) = true:=by rw [bne_iff_ne];exact h4
   have HV:Hid (wholeP l = some m.ints):=Hh (by rw [HW.out,hb,Option.bind_some,if_neg (by rw [HQ.out.1];exact h4)])
   clear hb h4
   go_quiet (fail)
   go_wp2;go_ret2;refine ⟨HGA.out.drewN _,?_⟩;rw [HV.out];exact ⟨B2,d2,by rw [HQ.out.2];rfl,HN2.out⟩
open Go.RowKit Go.Lib
theorem kidR_way (rd:List UInt8 → Option (List Nd × List UInt8)) (s:List UInt8):kidR rd s = if begB s [40] = true then (rd (s.drop 1)).bind fun p => if begB p.2 [41] = true then some (p.1,p.2.drop 1) else none else none:=by
 cases s with
 | nil => rfl
 | cons b r =>
  unfold kidR
  by_cases hb:b = 40
  ·subst hb
   have h1:begB (40 :: r) [40] = true:=beg_one.2 ⟨r,rfl⟩;rw [if_pos h1];simp only [if_true,List.drop_succ_cons,List.drop_zero];congr 1;funext p
   cases hp:p.2 with
   | nil => rfl
   | cons c t =>
    by_cases hc:c = 41
    ·subst hc
     have h2:begB (41 :: t) [41] = true:=beg_one.2 ⟨t,rfl⟩;rw [if_pos h2];rfl
    ·have h2:begB (c :: t) [41] = false:=beg_not (by simpa using hc)
     rw [if_neg (by rw [h2];simp)]
     simp only [if_neg hc]
  ·have h1:begB (b :: r) [40] = false:=beg_not (by simpa using hb)
   simp only [if_neg hb];rw [if_neg (by rw [h1];simp)]
theorem kidsR_none {rd : List UInt8 → Option (List Nd × List UInt8)} {s : List UInt8} {k : Nat} (h : kidsR rd k s = none) : ∀ m, k ≤ m → kidsR rd m s = none
  | 0, hm => by obtain rfl : k = 0 := by omega
                exact h
  | m + 1, hm => by
    by_cases he : k = m + 1
    · rw [← he]; exact h
    · rw [kidsR_succ, kidsR_none h m (by omega)]; rfl
def ArrC (d:Nat) (depth:Int):Prop:=∀ (g z:Nat) (ns:List Nd) (s:List UInt8) (w:World),Rd g z ns s w → s.length ≤ 100000 → ns.length + s.length ≤ 1000000 → LaidG g w →
 Calls Tryz.prog 25 #[.pointer (some ⟨g,0,none⟩),.int .i64 depth] w (RdP g ns (arrayP d s) w)
theorem Rd.lt {g z:Nat} {ns:List Nd} {s:List UInt8} {w:World} (h:Rd g z ns s w):g < w.heap.size:=by obtain ⟨v,h1,_⟩:=h;exact h1.lt
theorem skip_rd {g z:Nat} {ns:List Nd} {s:List UInt8} {w:World} (h:Rd g z ns s w) (p:List UInt8):Calls Tryz.prog 47 #[.pointer (some ⟨g,0,none⟩),.string ⟨p.toArray⟩] w fun e w' => e = .returned (.bool (begB s p)) ∧ Rd g z ns (skipL s p) w' ∧ Below g w w':=by
 obtain ⟨v,hat,ho,hz,hzw,hvz⟩:=h;refine (skip_any g v s p w hat).mono ?_;rintro e w' ⟨rfl,hst⟩;exact ⟨rfl,Rd.step (s:=s) ho hz hzw hvz hst,below_kept hst.2 (Nat.le_of_lt hat.lt)⟩
theorem begins_rd {g z:Nat} {ns:List Nd} {s:List UInt8} {w:World} (h:Rd g z ns s w) (p:List UInt8):Calls Tryz.prog 49 #[.pointer (some ⟨g,0,none⟩),.string ⟨p.toArray⟩] w fun e w' => e = .returned (.bool (begB s p)) ∧ w' = w:=by
 obtain ⟨v,hat,_⟩:=h;exact begins_any g v s p w hat
theorem kids_anyP (d:Nat) (depth:Int) (hd0:0 ≤ depth) (hd1:depth ≤ 100) (IH:ArrC d (depth + 1)) (g z:Nat) (ns:List Nd) (s:List UInt8) (A1:Option Addr) (n1 c1:Nat) (sh:List Int) (m:Nat) (w:World) (hrd:Rd g z ns s w)
  (hs:sh.length = n1) (hsh:NumsT (fun b => z ≤ b) w A1 sh) (hm:m ≤ 1048576) (hl:s.length ≤ 100000) (hns:ns.length + s.length ≤ 1000000 - 1) (hL:LaidG g w) :
  Calls Tryz.prog 90 #[.pointer (some ⟨g,0,none⟩),.slice A1 n1 c1,.int .i64 m,.int .i64 depth] w (RdP g ns ((kidsR (arrayP d) m s).map fun p => (⟨5,sh,[],[]⟩ :: p.1,p.2)) w):=by
 obtain ⟨v,hat,ho,hz,hzw,hvz⟩:=hrd;have hgw:=hat.lt;have HIH:=Hh IH;have HS:=Hh hs;have HL:=Hh hL;have HV:=Hh hvz;have HTK:Hid (∀ (k:Nat) (r:List UInt8) (a:List Nd),kidsR (arrayP d) k s = some (a,r) → a.length + r.length + 2 * k ≤ s.length ∧ Trim a):=Hh (fun k r a h2 => kidsR_took (arrayP_took d) hl h2);have HTA:Hid (∀ (x r:List UInt8) (a:List Nd),x.length ≤ 100000 → arrayP d x = some (a,r) → a.length + r.length ≤ x.length):=Hh (fun x r a h1 h2 => (arrayP_took d x a r h1 h2).1);have hgn:=grow_new w (.cells #[.int .i64 5,.slice A1 n1 c1,.slice none 0 0,.slice none 0 0] 34);have HB3:Hid (BoxN (w.alloc (.cells #[.int .i64 5,.slice A1 n1 c1,.slice none 0 0,.slice none 0 0] 34)) w.heap.size 5 A1 sh.length c1 none 0 0 none 0 0):=Hh (by rw [hs];exact boxN_new _ _ _ _ _ _ _ _ _ _ _)
 have HO3:=Hh (ho.grow hgn);have HN1:=Hh ((NumsT.newN hsh).grow hgn);have HAT:=Hh (hat.grow hgn);have HBW:Hid (Below g w (w.alloc (.cells #[.int .i64 5,.slice A1 n1 c1,.slice none 0 0,.slice none 0 0] 34))):=Hh (Below.mono hgn (Nat.le_of_lt hgw));have hc2:=Boxed.fst hat;clear IH hs hL hvz hgn hat ho hsh
 go_enter Tryz.func90,Tryz.ntmps90
 go_wp2_with (at_builtin;refine wpList_append_node rfl _ _ rfl (g + 1) z v ns ⟨5,sh,[],[]⟩ w.heap.size A1 none none c1 0 0 rfl HO3.out rfl HB3.out HN1.out NumsT.nil_ DecsT.nil_ (by omega) HV.out (by omega) ?_;intro v7 w7 hO7 hB7;obtain ⟨A7,c7,hv7,-,-⟩:=hO7.out.nodes;subst hv7;have hA7:Hid (AtR g v s w7):=Hh ((hB7.out.block g (by omega)).trans HAT.out);have hc7:=Boxed.fst hA7.out;have hf7:=Boxed.froz hA7.out 0;generalize hn7:(ns ++ [(⟨5,sh,[],[]⟩:Nd)]).length = n7 at hO7)
 have hRD:=Hh (rd_put hA7.out hO7.out);have hB8:=Hh (Below.trans HBW.out (Below.trans (Below.mono hB7.out (by omega)) (below_put1 w7 0 (.slice A7 n7 c7))))
 obtain ⟨w8,hw8⟩:∃ w8,w7.setCell ⟨g,0,none⟩ (.slice A7 n7 c7) = w8:=⟨_,rfl⟩;rw [hw8] at hRD hB8 ⊢;generalize w7.heap.size = z8 at hRD;clear hw8 hc7 hf7 hA7 hO7 hB7 hn7 hc2 HAT HBW HN1 HO3 HB3 HV
 go_loopg [21] m (fun gk s21 wr => ∃ (k:Nat) (acc:List Nd) (r:List UInt8) (zr:Nat),s21 = .int .i64 k ∧ k ≤ m ∧ gk = m - k ∧ Hid (kidsR (arrayP d) k s = some (acc,r)) ∧ Hid (Rd g zr (ns ++ ⟨5,sh,[],[]⟩ :: acc) r wr) ∧ Hid (Below g w wr))
 case atStart => exact ⟨0,[],s,z8,rfl,Nat.zero_le _,rfl,Hh rfl,hRD,hB8⟩
 case round =>
  obtain ⟨k,acc,r,zr,rfl,hk,rfl,HK,HR,HB⟩:=hrel
  by_cases hkm:k < m
  ·have htk:=HTK.out k r acc HK.out
   have hrl:r.length ≤ 100000:=by omega
   have htk1:=htk.1;have HSK:=Hh (skip_rd HR.out [40]);have hkm1:((k:Nat):Int) < ((m:Nat):Int):=by omega
   have HKS:Hid (kidsR (arrayP d) (k + 1) s = (kidR (arrayP d) r).map fun q => (acc ++ q.1,q.2)):=Hh (by rw [kidsR_succ,HK.out,Option.bind_some])
   have HKN:Hid (kidR (arrayP d) r = none → (kidsR (arrayP d) m s).map (fun p => ((⟨5,sh,[],[]⟩:Nd) :: p.1,p.2)) = none):=Hh (fun h => by rw [kidsR_none (k:=k + 1) (by rw [HKS.out,h];rfl) m (by omega)];rfl)
   have HWY:=Hh (kidR_way (arrayP d) r);clear htk HK
   cases hb:begB r [40] with
   | false =>
    have HF:=Hh (HKN.out (by rw [HWY.out,hb];rfl))
    rw [hb] at HSK;clear hb HKN HWY HKS;go_wp2_with fail;refine (HSK.out).mono ?_;rintro e w1 ⟨rfl,_,hb1⟩;have HB1:=Hh (Below.trans HB.out hb1);clear hb1;go_wp2;go_ret;exact ⟨HB1.out,by rw [HF.out];rfl⟩
   | true =>
    have hr1:1 ≤ r.length:=beg_len hb;have HWY2:Hid (kidR (arrayP d) r = (arrayP d (r.drop 1)).bind fun p => if begB p.2 [41] = true then some (p.1,p.2.drop 1) else none):=Hh (by rw [HWY.out,if_pos hb])
    have hsk:skipL r [40] = r.drop 1:=by unfold skipL;rw [if_pos hb];rfl
    rw [hb,hsk] at HSK;have hdl:(r.drop 1).length = r.length - 1:=List.length_drop;generalize r.drop 1 = r1 at *;clear hb hsk HWY;go_wp2_with fail;refine (HSK.out).mono ?_;rintro e w1 ⟨rfl,hrd1,hb1⟩;have HB1:=Hh (Below.trans HB.out hb1);have HA:=Hh (HIH.out g zr (ns ++ ⟨5,sh,[],[]⟩ :: acc) r1 w1 hrd1 (by omega) (by simp only [List.length_append,List.length_cons];omega) (HL.out.below HB1.out))
    clear hb1 hrd1 HSK;have hdep:IntKind.i64.wrap (depth + 1) = depth + 1:=by rw [IntKind.wrap_i64];omega
    go_wp2_with fail;refine (HA.out).mono ?_;rintro e w2 ⟨hb2,hx⟩;have HB2:=Hh (Below.trans HB1.out hb2);clear hb2 HA
    cases ha:arrayP d r1 with
    | none =>
     rw [ha] at hx;simp only at hx;subst hx;have HF:=Hh (HKN.out (by rw [HWY2.out,ha];rfl))
     clear ha HKN HWY2 HKS;go_wp2;go_ret;exact ⟨HB2.out,by rw [HF.out];rfl⟩
    | some p =>
     obtain ⟨a1,r2⟩:=p;rw [ha] at hx;simp only at hx;obtain ⟨rfl,z2,hrd2⟩:=hx;have hta:=HTA.out r1 r2 a1 (by omega) ha
     have HSK2:=Hh (skip_rd hrd2 [41]);clear hrd2
     cases hb2:begB r2 [41] with
     | false =>
      have HF:=Hh (HKN.out (by rw [HWY2.out,ha,Option.bind_some];simp only;rw [if_neg (by rw [hb2];simp)]))
      rw [hb2] at HSK2;clear ha HKN HWY2 HKS hb2;go_wp2_with fail;refine (HSK2.out).mono ?_;rintro e w3 ⟨rfl,_,hb3⟩;have HB3:=Hh (Below.trans HB2.out hb3);clear hb3;go_wp2;go_ret;exact ⟨HB3.out,by rw [HF.out];rfl⟩
     | true =>
      have HKS2:Hid (kidsR (arrayP d) (k + 1) s = some (acc ++ a1,r2.drop 1)):=Hh (by rw [HKS.out,HWY2.out,ha,Option.bind_some];simp only;rw [if_pos hb2];rfl)
      have hsk2:skipL r2 [41] = r2.drop 1:=by unfold skipL;rw [if_pos hb2];rfl
      rw [hb2,hsk2] at HSK2;clear ha HKN HWY2 HKS hb2 hsk2;go_wp2_with fail;refine (HSK2.out).mono ?_;rintro e w3 ⟨rfl,hrd3,hb3⟩;have HB3:=Hh (Below.trans HB2.out hb3);have HR3:Hid (Rd g z2 (ns ++ ⟨5,sh,[],[]⟩ :: (acc ++ a1)) (r2.drop 1) w3):=Hh (by rw [List.append_assoc,List.cons_append] at hrd3;exact hrd3)
      clear hb3 hrd3 HSK2;go_wp2;go_roundg (m - (k + 1))
      case rel => exact ⟨k + 1,acc ++ a1,r2.drop 1,z2,rfl,by omega,rfl,HKS2,HR3,HB3⟩
      case measure => omega
  ·obtain rfl:k = m:=by omega
   go_wp2;go_ret;refine ⟨HB.out,?_⟩;rw [HK.out];exact ⟨rfl,zr,HR.out⟩
open Go.RowKit Go.Lib
theorem RdP.after {g:Nat} {ns:List Nd} {o:Option (List Nd × List UInt8)} {a b:World} {e:Ending} {c:World} (h:RdP g ns o b e c) (hb:Below g a b):RdP g ns o a e c:=⟨Below.trans hb h.1,h.2⟩
theorem RdP.no {g:Nat} {ns:List Nd} {o:Option (List Nd × List UInt8)} {a b:World} (h:o = none) (hb:Below g a b):RdP g ns o a (.returned (.bool false)) b:=by subst h;exact ⟨hb,rfl⟩
theorem RdP.val {g:Nat} {ns:List Nd} {o:Option (List Nd × List UInt8)} {a b:World} {e:Ending} (h:RdP g ns o a e b):∃ β:Bool,e = .returned (.bool β):=by
 cases o with
 | none => exact ⟨false,h.2⟩
 | some p => exact ⟨true,h.2.1⟩
theorem rd_lay {g z:Nat} {v:Value} {ns:List Nd} {s t:List UInt8} {A1:Option Addr} {n1 c1:Nat} {sh:List Int} {A:Option Addr} {n c:Nat} {l:List (Int × Int)} {w w':World} (hat:AtR g v s w) (ho:OwnRN (g + 1) v ns w) (hz:g < z)
  (hs:sh.length = n1) (hs1:n1 ≤ 1100000) (hsh:NumsT (fun b => z ≤ b) w A1 sh) (hst:Step g v t w w') (hn:l.length = n) (hm:n ≤ 1100000) (hi:∀ x ∈ l,In x.1 ∧ In x.2) (hr:Decs w' w'.heap.size A l) (hns:ns.length ≤ 1100000) :
  Calls Tryz.prog 52 #[.pointer (some ⟨g,0,none⟩),.slice A1 n1 c1,.slice A n c] w' (RdP g ns (layP sh l t) w') :=
 play_any g v ns t A1 n1 c1 sh A n c l w' hst.1 (ho.kept (by omega) hst.2) hs hs1 (NumsT.nums (T:=fun b => True) (hsh.lt.keep fun b hb => ⟨trivial,hst.2.block b hb.2 (by have:=hb.1;omega)⟩)) hn hm hi hr hns
theorem pshaped_any (d:Nat) (depth:Int) (hd0:0 ≤ depth) (hd1:depth ≤ 100) (IH:ArrC d (depth + 1)) (g z:Nat) (ns:List Nd) (s:List UInt8) (A1:Option Addr) (n1 c1:Nat) (sh:List Int) (w:World) (hrd:Rd g z ns s w)
  (hs:sh.length = n1) (hs1:n1 ≤ 1100000) (hsh:NumsT (fun b => z ≤ b) w A1 sh) (hl:s.length ≤ 100000) (hns:ns.length + s.length ≤ 1000000 - 1) (hL:LaidG g w) :
  Calls Tryz.prog 48 #[.pointer (some ⟨g,0,none⟩),.slice A1 n1 c1,.int .i64 depth] w (RdP g ns (shapedP (arrayP d) sh s) w):=by
 have HC:=Hh (count_any A1 n1 c1 sh w hs (by omega) hsh.nums)
 have HBG:=Hh (fun W (h:Rd g z ns s W) p => begins_rd h p);have hgw:=hrd.lt;have HKD:=Hh (fun W (h:Rd g z ns s W) (h2:NumsT (fun b => z ≤ b) W A1 sh) (h3:LaidG g W) => kids_anyP d depth hd0 hd1 IH g z ns s A1 n1 c1 sh (cnt sh) W h hs h2 (cnt_le1 sh) hl hns h3);have HRD:=Hh hrd;have HSH:=Hh hsh;have HS:=Hh hs;have HL:=Hh hL;clear hrd hs hsh hL IH
 cases hr:rightB sh with
 | false =>
  have HF:Hid (shapedP (arrayP d) sh s = none):=Hh (by unfold shapedP;rw [hr];rfl)
  rw [hr] at HC;clear hr
  go_enter Tryz.func48,Tryz.ntmps48
  go_wp2_with fail;refine (HC.out).mono ?_;rintro e w1 ⟨rfl,hw⟩;have HG1:=Hh (show Grow w w1 by rw [hw];exact Grow.refl _)
  clear hw;go_wp2;go_ret;exact RdP.no HF.out (Below.mono HG1.out (Nat.le_of_lt hgw))
 | true =>
  rw [hr] at HC
  have HF1:Hid (shapedP (arrayP d) sh s = if begB s [40] = true then (kidsR (arrayP d) (cnt sh) s).map (fun p => (⟨5,sh,[],[]⟩ :: p.1,p.2)) else if begB s [39] = true then signsP sh s
   else if cnt sh = 0 then (if begB s [48] = true then layP sh [] (s.drop 1) else none) else (numsP s).bind fun p => layP sh p.1 p.2):=Hh (by unfold shapedP;rw [if_pos hr])
  clear hr;have HB1:=Hh (HBG.out w HRD.out [40]);have HB2:=Hh (HBG.out w HRD.out [39])
  cases h40:begB s [40] with
  | true =>
   have HF:Hid (shapedP (arrayP d) sh s = (kidsR (arrayP d) (cnt sh) s).map (fun p => (⟨5,sh,[],[]⟩ :: p.1,p.2))):=Hh (by rw [HF1.out,if_pos h40])
   rw [h40] at HB1;clear h40 HF1
   go_enter Tryz.func48,Tryz.ntmps48
   go_wp2_with fail;refine (HC.out).mono ?_;rintro e w ⟨rfl,rfl⟩;go_wp2_with fail;refine (HB1.out).mono ?_;rintro e w ⟨rfl,rfl⟩;go_wp2_with fail;refine (HKD.out _ HRD.out HSH.out HL.out).mono ?_;rintro e w2 hp;obtain ⟨β,rfl⟩:=hp.val;have HP:=Hh hp;clear hp;go_wp2;go_ret;rw [HF.out];exact HP.out
  | false =>
   rw [h40] at HB1
   cases h39:begB s [39] with
   | true =>
    have HF:Hid (shapedP (arrayP d) sh s = signsP sh s):=Hh (by rw [HF1.out,if_neg (by rw [h40];simp),if_pos h39])
    have h1:1 ≤ s.length:=beg_len h39;obtain ⟨v,hat,ho,hz,hzw,hvz⟩:=HRD.out;have HSG:=Hh (psigns_any g z v ns s A1 n1 c1 sh w hat ho hz hzw hvz HS.out HSH.out h1 hl HL.out (by omega))
    rw [h39] at HB2;clear h40 h39 HF1 hat ho hz hzw hvz h1
    go_enter Tryz.func48,Tryz.ntmps48
    go_wp2_with fail;refine (HC.out).mono ?_;rintro e w ⟨rfl,rfl⟩;go_wp2_with fail;refine (HB1.out).mono ?_;rintro e w ⟨rfl,rfl⟩;go_wp2_with fail;refine (HB2.out).mono ?_;rintro e w ⟨rfl,rfl⟩;go_wp2_with fail;refine (HSG.out).mono ?_;rintro e w2 hp;obtain ⟨β,rfl⟩:=hp.val;have HP:=Hh hp;clear hp;go_wp2;go_ret;rw [HF.out];exact HP.out
   | false =>
    rw [h39] at HB2;obtain ⟨v,hat,ho,hz,hzw,hvz⟩:=HRD.out
    by_cases hc0:cnt sh = 0
    ·have HF2:Hid (shapedP (arrayP d) sh s = if begB s [48] = true then layP sh [] (s.drop 1) else none):=Hh (by rw [HF1.out,if_neg (by rw [h40];simp),if_neg (by rw [h39];simp),if_pos hc0])
     have HSK:=Hh (skip_any g v s [48] w hat);rw [hc0] at HC;clear h40 h39 HF1
     cases h48:begB s [48] with
     | false =>
      have HF:Hid (shapedP (arrayP d) sh s = none):=Hh (by rw [HF2.out,if_neg (by rw [h48];simp)])
      rw [h48] at HSK;clear hat ho hz hzw hvz h48 HF2
      go_enter Tryz.func48,Tryz.ntmps48
      go_wp2_with fail;refine (HC.out).mono ?_;rintro e w ⟨rfl,rfl⟩;go_wp2_with fail;refine (HB1.out).mono ?_;rintro e w ⟨rfl,rfl⟩;go_wp2_with fail;refine (HB2.out).mono ?_;rintro e w ⟨rfl,rfl⟩;go_wp2_with fail;refine (HSK.out).mono ?_;rintro e w2 ⟨rfl,hst⟩;have HST:=Hh hst;clear hst;go_wp2;go_ret;exact RdP.no HF.out (below_kept HST.out.2 (Nat.le_of_lt hgw))
     | true =>
      have HF:Hid (shapedP (arrayP d) sh s = layP sh [] (s.drop 1)):=Hh (by rw [HF2.out,if_pos h48])
      have hsk:skipL s [48] = s.drop 1:=by unfold skipL;rw [if_pos h48];rfl
      rw [h48,hsk] at HSK;have HLY:=Hh (fun W (hst:Step g v (s.drop 1) w W) => rd_lay (A:=none) (n:=0) (c:=0) (l:=[]) (c1:=c1) hat ho hz HS.out hs1 HSH.out hst rfl (by decide) (fun x hx => by cases hx) Decs.none_ (by omega))
      clear hat ho hz hzw hvz h48 HF2 hsk
      go_enter Tryz.func48,Tryz.ntmps48
      go_wp2_with fail;refine (HC.out).mono ?_;rintro e w ⟨rfl,rfl⟩;go_wp2_with fail;refine (HB1.out).mono ?_;rintro e w ⟨rfl,rfl⟩;go_wp2_with fail;refine (HB2.out).mono ?_;rintro e w ⟨rfl,rfl⟩;go_wp2_with fail;refine (HSK.out).mono ?_;rintro e w2 ⟨rfl,hst⟩;have HST:=Hh hst;clear hst;go_wp2_with fail;refine (HLY.out _ HST.out).mono ?_;rintro e w3 hp;obtain ⟨β,rfl⟩:=hp.val;have HP:=Hh (hp.after (below_kept HST.out.2 (Nat.le_of_lt hgw)));clear hp;go_wp2;go_ret;rw [HF.out];exact HP.out
    ·have HF2:Hid (shapedP (arrayP d) sh s = (numsP s).bind fun p => layP sh p.1 p.2):=Hh (by rw [HF1.out,if_neg (by rw [h40];simp),if_neg (by rw [h39];simp),if_neg hc0])
     have hcb:(((cnt sh:Nat):Int) == 0) = false:=by rw [beq_eq_false_iff_ne];omega
     have HNM:=Hh (pnumbers_any g v s w hat hl HL.out);clear h40 h39 HF1 hc0
     cases hq:numsP s with
     | none =>
      have HF:Hid (shapedP (arrayP d) sh s = none):=Hh (by rw [HF2.out,hq];rfl)
      rw [hq] at HNM;clear hat ho hz hzw hvz hq HF2
      go_enter Tryz.func48,Tryz.ntmps48
      go_wp2_with fail;refine (HC.out).mono ?_;rintro e w ⟨rfl,rfl⟩;go_wp2_with fail;refine (HB1.out).mono ?_;rintro e w ⟨rfl,rfl⟩;go_wp2_with fail;refine (HB2.out).mono ?_;rintro e w ⟨rfl,rfl⟩;go_wp2_with fail;refine (HNM.out).mono ?_;rintro e w2 ⟨⟨x,rfl⟩,hk⟩;have HKP:=Hh hk;clear hk;go_wp2;go_ret;exact RdP.no HF.out (below_kept HKP.out (Nat.le_of_lt hgw))
     | some p =>
      obtain ⟨ds,r⟩:=p;have HF:Hid (shapedP (arrayP d) sh s = layP sh ds r):=Hh (by rw [HF2.out,hq];rfl)
      obtain ⟨t1,_,t3,_⟩:=nums_took hq;rw [hq] at HNM;obtain ⟨m,hm⟩:∃ m,ds.length = m:=⟨_,rfl⟩;have HMN:=Hh hm;have HLY:=Hh (fun W A c (hst:Step g v r w W) (hr:Decs W W.heap.size A ds) => rd_lay (A:=A) (n:=m) (c:=c) (c1:=c1) hat ho hz HS.out hs1 HSH.out hst hm (by omega) t1 hr (by omega))
      clear hat ho hz hzw hvz hq HF2 t1 t3 hm
      go_enter Tryz.func48,Tryz.ntmps48
      go_wp2_with fail;refine (HC.out).mono ?_;rintro e w ⟨rfl,rfl⟩;go_wp2_with fail;refine (HB1.out).mono ?_;rintro e w ⟨rfl,rfl⟩;go_wp2_with fail;refine (HB2.out).mono ?_;rintro e w ⟨rfl,rfl⟩;go_wp2_with fail;refine (HNM.out).mono ?_;rintro e w2 ⟨A,c,rfl,hds,hst⟩;have HST:=Hh hst;have HDS:=Hh hds;clear hst hds;simp only [HMN.out];go_wp2_with fail;refine (HLY.out _ A c HST.out HDS.out).mono ?_;rintro e w3 hp;obtain ⟨β,rfl⟩:=hp.val;have HP:=Hh (hp.after (below_kept HST.out.2 (Nat.le_of_lt hgw)));clear hp;go_wp2;go_ret;rw [HF.out];exact HP.out
end Go.Proofs.YteoogioanjkacaaGreatDoor
