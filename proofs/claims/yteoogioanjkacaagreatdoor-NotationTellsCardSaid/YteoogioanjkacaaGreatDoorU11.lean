/-
  Contracts, joined: ArrayP, TextP, ParseP, SmallT, Small, LOnce, LBack, RRight, RFirst, RSizes, RKids, RValues. Nothing is claimed here by itself.
-/
import Derived.Test.YteoogioanjkacaaGreatDoorU01
import Derived.Test.YteoogioanjkacaaGreatDoorU02
import Derived.Test.YteoogioanjkacaaGreatDoorU03
import Derived.Test.YteoogioanjkacaaGreatDoorU04
import Derived.Test.YteoogioanjkacaaGreatDoorU06
import Derived.Test.YteoogioanjkacaaGreatDoorU10
import Derived.KernelRfl
import Derived.Deep.CutBlock
import Derived.Deep.DeepCutAuto
set_option maxRecDepth 100000
set_option maxHeartbeats 12800000
set_option linter.unusedSimpArgs false
set_option linter.unusedVariables false
namespace Go.Proofs.YteoogioanjkacaaGreatDoor
open Go.RowKit Go.Lib
theorem decs_off {g:Nat} {v:Value} {s:List UInt8} {ns:List Nd} {B:Nat} {A:Option Addr} {ds:List (Int × Int)} {w:World} (h:AtR g v s w) (ho:OwnRN (g + 1) v ns w) (hd:Decs w B A ds):DecsT (fun b => ¬ b = g ∧ b < w.heap.size) w A ds:=fun hn => by
 obtain ⟨b,off,rfl,hb,hc⟩:=hd hn;refine ⟨b,off,rfl,⟨?_,block_lt_of_cell (hc 0 hn).1⟩,hc⟩;rintro rfl;obtain ⟨A7,c7,rfl,-,-⟩:=ho.nodes;have h0:=(hc 0 hn).1;rw [Nat.zero_mul,Nat.add_zero] at h0;unfold AtR Boxed at h;rw [cell_of_row w b off _ _ (0,0) h] at h0
 match off,h0 with
 | 0,h0 => cases h0
 | 1,h0 => cases h0
 | k + 2,h0 => simp at h0
theorem decs_step {g:Nat} {v:Value} {s t:List UInt8} {ns:List Nd} {B:Nat} {A:Option Addr} {ds:List (Int × Int)} {w w':World} (h:AtR g v s w) (ho:OwnRN (g + 1) v ns w) (hd:Decs w B A ds) (hst:Step g v t w w'):Decs w' w'.heap.size A ds :=
 DecsT.decs (T:=fun b => True) ((decs_off h ho hd).keep fun b hb => ⟨trivial,hst.2.block b hb.2 hb.1⟩)
theorem Step.trans {g:Nat} {v:Value} {s t:List UInt8} {a b c:World} (h:Step g v s a b) (k:Step g v t b c):Step g v t a c:=⟨k.1,h.2.trans k.2⟩
theorem whole_len {l:List (Int × Int)} {s:List Int} (h:wholeP l = some s):s.length ≤ l.length:=by
 unfold wholeP numO at h;split at h
 ·rw [Option.bind_some] at h
  split at h
  ·cases h
  ·cases h
   unfold leastN;split
   ·show (l.map whlV).length ≤ _;rw [List.length_map];exact Nat.le_refl _
   ·simp
 ·cases h
theorem array_zero (depth:Int) (hd:depth = 17):ArrC 0 depth:=by
 intro g z ns s w hrd hl hns hL;subst hd;have hgw:=hrd.lt;clear hrd hL
 go_enter Tryz.func25,Tryz.ntmps25
 go_wp2;go_ret;exact RdP.no rfl (Below.refl _ _)
theorem array_succ (d:Nat) (depth:Int) (hd0:0 ≤ depth) (hd1:depth ≤ 16) (IH:ArrC d (depth + 1)):ArrC (d + 1) depth:=by
 intro g z ns s w hrd hl hns hL;have hgw:=hrd.lt;have HSHP:=Hh (fun (z:Nat) (s:List UInt8) (A1:Option Addr) (n1 c1:Nat) (sh:List Int) W (h1:Rd g z ns s W) h2 h3 (h4:NumsT (fun b => z ≤ b) W A1 sh) h5 h6 (h7:LaidG g W) => pshaped_any d depth hd0 (by omega) IH g z ns s A1 n1 c1 sh W h1 h2 h3 h4 h5 h6 h7)
 have HAS:=Hh (arrayP_succ d s);have hdep:¬ 16 < depth:=by omega
 have HRD:=Hh hrd;have HL:=Hh hL;have HSK:=Hh (skip_rd hrd [226,138,130]);clear IH hrd hL hd0 hd1
 cases h226:begB s [226,138,130] with
 | true =>
  have HF:Hid (arrayP (d + 1) s = shapedP (arrayP d) [] (s.drop 3)):=Hh (by rw [HAS.out,if_pos h226])
  have hsk:skipL s [226,138,130] = s.drop 3:=by unfold skipL;rw [if_pos h226];rfl
  have h3:3 ≤ s.length:=beg_len h226;have hdl:(s.drop 3).length = s.length - 3:=List.length_drop;rw [h226,hsk] at HSK;clear h226 hsk HAS
  go_enter Tryz.func25,Tryz.ntmps25
  go_wp2_with fail;refine (HSK.out).mono ?_;rintro e w1 ⟨rfl,hrd1,hb1⟩;have HB1:=Hh hb1;have HC:=Hh (HSHP.out z (s.drop 3) none 0 0 [] w1 hrd1 rfl (by decide) NumsT.nil_ (by omega) (by omega) (HL.out.below hb1))
  clear hrd1 hb1 HSK;go_wp2_with fail;refine (HC.out).mono ?_;rintro e w2 hp;obtain ⟨β,rfl⟩:=hp.val;have HP:=Hh (hp.after HB1.out);clear hp;go_wp2;go_ret;rw [HF.out];exact HP.out
 | false =>
  have hsk:skipL s [226,138,130] = s:=by unfold skipL;rw [if_neg (by rw [h226];simp)]
  rw [h226,hsk] at HSK
  have HAS2:Hid (arrayP (d + 1) s = if begB s [39] = true then signsP [] s else (numsP s).bind fun p =>
   if begB p.2 [226,141,180] = true then (wholeP p.1).bind fun sh => shapedP (arrayP d) sh (p.2.drop 3) else layP [] p.1 p.2):=Hh (by rw [HAS.out,if_neg (by rw [h226];simp)])
  clear h226 hsk HAS HRD
  go_enter Tryz.func25,Tryz.ntmps25
  go_wp2_with fail;refine (HSK.out).mono ?_;rintro e w1 ⟨rfl,hrd1,hb1⟩;have HB1:=Hh hb1;have HL1:=Hh (HL.out.below hb1);have HBG:=Hh (begins_rd hrd1 [39]);have HRD1:=Hh hrd1;have hgw1:=hrd1.lt;clear hb1 HSK HL hrd1
  cases h39:begB s [39] with
  | true =>
   have HF:Hid (arrayP (d + 1) s = signsP [] s):=Hh (by rw [HAS2.out,if_pos h39])
   have h1:1 ≤ s.length:=beg_len h39;obtain ⟨v,hat,ho,hz,hzw,hvz⟩:=HRD1.out;have HSG:=Hh (psigns_any g z v ns s none 0 0 [] w1 hat ho hz hzw hvz rfl NumsT.nil_ h1 hl HL1.out (by omega))
   rw [h39] at HBG;clear h39 HAS2 hat ho hz hzw hvz;go_wp2_with fail;refine (HBG.out).mono ?_;rintro e w2 ⟨rfl,rfl⟩;go_wp2_with fail;refine (HSG.out).mono ?_;rintro e w3 hp;obtain ⟨β,rfl⟩:=hp.val;have HP:=Hh (hp.after HB1.out);clear hp;go_wp2;go_ret;rw [HF.out];exact HP.out
  | false =>
   obtain ⟨v,hat,ho,hz,hzw,hvz⟩:=HRD1.out;have HNM:=Hh (pnumbers_any g v s w1 hat hl HL1.out);have HAS3:Hid (arrayP (d + 1) s = (numsP s).bind fun p => if begB p.2 [226,141,180] = true then (wholeP p.1).bind fun sh => shapedP (arrayP d) sh (p.2.drop 3) else layP [] p.1 p.2):=Hh (by rw [HAS2.out,if_neg (by rw [h39];simp)])
   rw [h39] at HBG;clear h39 HAS2;go_wp2_with fail;refine (HBG.out).mono ?_;rintro e w1 ⟨rfl,rfl⟩
   cases hq:numsP s with
   | none =>
    have HF:Hid (arrayP (d + 1) s = none):=Hh (by rw [HAS3.out,hq];rfl)
    rw [hq] at HNM;clear hq HAS3 hat ho hz hzw hvz;go_wp2_with fail;refine (HNM.out).mono ?_;rintro e w2 ⟨⟨x,rfl⟩,hk⟩;have HKP:=Hh (Below.trans HB1.out (below_kept hk (Nat.le_of_lt hgw1)));clear hk;go_wp2;go_ret;exact RdP.no HF.out HKP.out
   | some p =>
    obtain ⟨ds,r⟩:=p;have HAS4:Hid (arrayP (d + 1) s = if begB r [226,141,180] = true then (wholeP ds).bind fun sh => shapedP (arrayP d) sh (r.drop 3) else layP [] ds r):=Hh (by rw [HAS3.out,hq];rfl)
    obtain ⟨t1,_,t3,t4,_⟩:=nums_took hq;rw [hq] at HNM;obtain ⟨m,hm⟩:∃ m,ds.length = m:=⟨_,rfl⟩;have HMN:=Hh hm;have HT1:=Hh t1;have HPK:=Hh (show AtR g v s w1 ∧ OwnRN (g + 1) v ns w1 ∧ ∀ b,v.ownBlock = some b → b < z from ⟨hat,ho,hvz⟩);clear hq HAS3 t1 hm hat ho hvz;go_wp2_with fail;refine (HNM.out).mono ?_;rintro e w2 ⟨A,c,rfl,hds,hst⟩;have HST:=Hh hst;have HSK2:=Hh (skip_any g v r [226,141,180] w2 hst.1);have HDS3:=Hh (fun (W:World) t (h:Step g v t w2 W) => decs_step hst.1 (HPK.out.2.1.kept (by omega) hst.2) hds h)
    simp only [HMN.out];clear hst hds HNM
    cases hrho:begB r [226,141,180] with
    | false =>
     have HF:Hid (arrayP (d + 1) s = layP [] ds r):=Hh (by rw [HAS4.out,if_neg (by rw [hrho];simp)])
     have hsk:skipL r [226,141,180] = r:=by unfold skipL;rw [if_neg (by rw [hrho];simp)]
     rw [hrho,hsk] at HSK2;clear hrho hsk HAS4;go_wp2_with fail;refine (HSK2.out).mono ?_;rintro e w3 ⟨rfl,hst3⟩;have HST3:=Hh (HST.out.trans hst3);have HD3:=Hh (HDS3.out w3 r hst3);have HLY:=Hh (rd_lay (A1:=none) (n1:=0) (c1:=0) (sh:=[]) (A:=A) (n:=m) (c:=c) HPK.out.1 HPK.out.2.1 hz rfl (by decide) NumsT.nil_ HST3.out HMN.out (by have:=HMN.out;omega) HT1.out HD3.out (by omega))
     clear hst3 HSK2 HDS3;go_wp2_with fail;refine (HLY.out).mono ?_;rintro e w4 hp;obtain ⟨β,rfl⟩:=hp.val;have HP:=Hh (hp.after (Below.trans HB1.out (below_kept HST3.out.2 (Nat.le_of_lt hgw1))));clear hp;go_wp2;go_ret;rw [HF.out];exact HP.out
    | true =>
     have HF1:Hid (arrayP (d + 1) s = (wholeP ds).bind fun sh => shapedP (arrayP d) sh (r.drop 3)):=Hh (by rw [HAS4.out,if_pos hrho])
     have hsk:skipL r [226,141,180] = r.drop 3:=by unfold skipL;rw [if_pos hrho];rfl
     have h3:3 ≤ r.length:=beg_len hrho;have hdl:(r.drop 3).length = r.length - 3:=List.length_drop;rw [hrho,hsk] at HSK2;clear hrho hsk HAS4;go_wp2_with fail;refine (HSK2.out).mono ?_;rintro e w3 ⟨rfl,hst3⟩;have HST3:=Hh (HST.out.trans hst3);have HD3:=Hh (HDS3.out w3 _ hst3);have HW:=Hh (pwhole_any A m c ds w3 HMN.out (by have:=HMN.out;omega) HT1.out HD3.out)
     have HB3:=Hh (Below.trans HB1.out (below_kept HST3.out.2 (Nat.le_of_lt hgw1)));have HL3:=Hh (HL1.out.step HST3.out.2 (Nat.le_of_lt hgw1));have hg3:g < w3.heap.size:=HST3.out.1.lt;clear hst3 HSK2 HDS3;go_wp2_with fail;refine (HW.out).mono ?_;rintro e w4 ⟨hg4,hx⟩
     cases hwh:wholeP ds with
     | none =>
      have HF:Hid (arrayP (d + 1) s = none):=Hh (by rw [HF1.out,hwh];rfl)
      rw [hwh] at hx;obtain ⟨x,rfl⟩:=hx;have HB4:=Hh (Below.trans HB3.out (Below.mono hg4 (Nat.le_of_lt hg3)));clear hg4 hwh HW HF1;go_wp2;go_ret;exact RdP.no HF.out HB4.out
     | some sh =>
      have HF:Hid (arrayP (d + 1) s = shapedP (arrayP d) sh (r.drop 3)):=Hh (by rw [HF1.out,hwh];rfl)
      rw [hwh] at hx;obtain ⟨AS,cS,rfl,hnew⟩:=hx;have HB4:=Hh (Below.trans HB3.out (Below.mono hg4 (Nat.le_of_lt hg3)));have hshl:sh.length ≤ 1100000:=by
       have h0:=whole_len hwh;have:=HMN.out;omega
      obtain ⟨q,hqq⟩:∃ q,sh.length = q:=⟨_,rfl⟩;have HRD4:Rd g w3.heap.size ns (r.drop 3) w4:=⟨v,HST3.out.1.grow hg4,(HPK.out.2.1.kept (by omega) HST3.out.2).grow hg4,hg3,hg4.size,fun b hb => by have:=HPK.out.2.2 b hb;have:=HST3.out.2.size;omega⟩
      have HC:=Hh (HSHP.out w3.heap.size (r.drop 3) AS q cS sh w4 HRD4 hqq (by omega) (hnew.keep fun b hb => ⟨hb.1,rfl⟩) (by omega) (by omega) (HL3.out.below (Below.mono hg4 (Nat.le_of_lt hg3))))
      simp only [hqq];clear hg4 hwh HW HF1 hnew HRD4 hqq hshl;go_wp2_with fail;refine (HC.out).mono ?_;rintro e w5 hp;obtain ⟨β,rfl⟩:=hp.val;have HP:=Hh (hp.after HB4.out);clear hp;go_wp2;go_ret;rw [HF.out];exact HP.out
theorem array_any:∀ (d:Nat) (depth:Int),depth + (d:Int) = 17 → 0 ≤ depth → ArrC d depth
 | 0,depth,h,_ => array_zero depth (by omega)
 | d + 1,depth,h,h0 => array_succ d depth h0 (by omega) (array_any d (depth + 1) (by omega) (by omega))
open Go.RowKit Go.Lib
def wtN (m:Nd):Nat:=360 + 30 * (m.ints.length + m.decs.length)
def wtL:List Nd → Nat
 | [] => 0
 | m :: l => wtN m + wtL l
theorem wtL_app (a b:List Nd):wtL (a ++ b) = wtL a + wtL b:=by
 induction a with
 | nil => simp [wtL]
 | cons m l ih => simp only [List.cons_append,wtL,ih];omega
theorem head_len {m:Nd} (h:Wr m):(headT m).length ≤ 355:=by
 obtain ⟨w1,w2,_⟩:=h.parts;unfold headT;split
 ·split <;> simp
 ·have:=Num.ints_len w2
  unfold shpT;rw [List.length_append,List.length_cons,List.length_cons,List.length_cons,List.length_nil];omega
theorem leaf_len {m:Nd} (h:Wr m):(leafT m).length ≤ 2 + 30 * (m.ints.length + m.decs.length):=by
 obtain ⟨_,_,w3,w4⟩:=h.parts;unfold leafT;split
 ·rename_i h3
  obtain ⟨_,hfill⟩:=ok_right h.1.ok;obtain ⟨hz,_,_⟩:=sign_all hfill h3;rw [quoteT hz];have:=Quo.qT_le (Quo.natsZ m.ints);rw [Quo.nats_len] at this;simp only [List.length_cons,List.length_append,List.length_nil];omega
 ·split
  ·simp only [List.length_cons,List.length_nil];omega
  ·unfold numsT
   split
   ·have:=Num.decs_len (fun d hd => (w4 d hd).1);omega
   ·have:=Num.ints_len w3;omega
theorem cat_len {d:Nat} (hf:∀ l s,par d l = some s → (∀ m ∈ l.take s.n,Wr m) → (noteF d l).length + 2 ≤ wtL (l.take s.n)) :
  ∀ {c:Nat} {l:List Nd} {t:St},parK (par d) c l = some t → (∀ m ∈ l.take t.n,Wr m) → (catN (par d) (noteF d) c l).length ≤ wtL (l.take t.n)
 | 0,l,t,h,_ => by simp [catN]
 | c + 1,l,t,h,hW => by
  obtain ⟨a,b,ha,hb,rfl⟩:=parK_some h;have hab:l.take (a.plus b).n = l.take a.n ++ (l.drop a.n).take b.n:=take_app_part;rw [hab] at hW ⊢;have h1:=cat_len hf ha (fun m hm => hW m (List.mem_append_left _ hm));have h2:=hf _ _ hb (fun m hm => hW m (List.mem_append_right _ hm));rw [catN_succ ha,wtL_app];simp only [List.length_append,List.length_cons,List.length_nil];omega
theorem note_len:∀ {d:Nat} {l:List Nd} {s:St},par d l = some s → (∀ m ∈ l.take s.n,Wr m) → (noteF d l).length + 2 ≤ wtL (l.take s.n)
 | 0,l,s,h,_ => by cases h
 | d + 1,l,s,h,hW => by
  obtain ⟨e,n,l',t,he,rfl,hn,ht,rfl⟩:=par_parts h;obtain rfl:d = e:=by omega
  have htk:(n :: l').take (top n t).n = n :: l'.take t.n:=rfl;rw [htk] at hW ⊢;have hWn:=hW n (by simp)
  have h1:=head_len hWn;have e0:noteF (d + 1) (n :: l') = headT n ++ (if n.kind = 5 then catN (par d) (noteF d) (kc n) l' else leafT n):=noteF_cons d n l'
  rw [e0,List.length_append];show _ ≤ wtN n + wtL (l'.take t.n);unfold wtN;split
  ·have h2:=cat_len (fun l s h hW => note_len h hW) ht (fun m hm => hW m (by simp [hm]))
   omega
  ·have h2:=leaf_len hWn
   omega
theorem wtL_le {l:List Nd} (h:Slim l):wtL l ≤ l.length * 6000360:=by
 induction l with
 | nil => simp [wtL]
 | cons m l ih =>
  have h1:=h m (by simp)
  have h2:=ih (fun n hn => h n (by simp [hn]))
  simp only [wtL,wtN,List.length_cons];omega
theorem tight_wr {a:List Nd} (hr:rightA a = true) (hf:Fine a) (ht:formA a = a) (hs:Slim a):∀ m ∈ a,Wr m:=fun m hm => ⟨tight_tid hr hf ht m hm,(hs m hm).1,(hs m hm).2⟩
theorem noteA_len {a:List Nd} (hr:rightA a = true) (hf:Fine a) (ht:formA a = a) (hs:Slim a):(noteA a).length + 2 ≤ wtL a:=by
 obtain ⟨s,hs'⟩:=right_some hr;obtain ⟨h1,_,h3⟩:=whl_some hs';have e:a.take s.n = a:=List.take_of_length_le (by omega)
 have:=note_len h1 (by rw [e];exact tight_wr hr hf ht hs)
 rw [e] at this;exact this
theorem ptext_any (A:Option Addr) (n c:Nat) (ns:List Nd) (w:World) (hn:ns.length = n) (hnc:n ≤ c) (hf:Fine ns) (hs:Slim ns) (hns:Nodes w w.heap.size A ns) (hL:LaidN w) :
  Calls Tryz.prog 13 #[.slice A n c] w fun e w' => e = .returned (.string ⟨(noteT ns).toArray⟩) ∧ Grow w w':=by
 have hnb:n ≤ 1100000:=by have:=hf.1;omega
 have hwi:(ws ns).i ≤ 1099999:=by
  unfold ws
  cases hq:whlD ns with
  | none => simp [st0]
  | some s => have:=(whl_some hq).2.1;simp only [Option.getD_some];omega
 have HC:=Hh (tright_any A n c ns w hn hnc hf hwi hns);have HNS:=Hh hns;have HN:=Hh hn;have HL:=Hh hL;have HFS:=Hh (show Fine ns ∧ Slim ns from ⟨hf,hs⟩)
 by_cases ht:rightA ns = true ∧ formA ns = ns
 ·have hb:(rightA ns && decide (ns = formA ns)) = true:=by rw [ht.1,ht.2];simp
  have HF:Hid (noteT ns = noteA ns):=Hh (by unfold noteT;rw [if_pos ht])
  obtain ⟨s,hs'⟩:=right_some ht.1;obtain ⟨q1,_,q3⟩:=whl_some hs';have etk:ns.take s.n = ns:=List.take_of_length_le (by omega)
  have hW:∀ m ∈ ns.take s.n,Wr m:=by rw [etk];exact tight_wr ht.1 hf ht.2 hs
  have hlen:(noteF 16 ns).length ≤ 140737488355328:=by
   have h1:=noteA_len ht.1 hf ht.2 hs;have h2:=wtL_le hs;have h3:ns.length * 6000360 ≤ 1100000 * 6000360:=Nat.mul_le_mul (by omega) (Nat.le_refl _)
   unfold noteA at h1;omega
  have HWR:=Hh (fun (B b:Nat) W (h1:Nodes W B A ns) (h2:Bld B b [] W) h3 (h4:LaidG B W) => pwrite_any 16 B b [] A n c ns s W q1 hW hn hnb hnc h1 h2 h3 (by simpa using hlen) h4)
  have HNE:=Hh (note_ne ht.1 hf ht.2);rw [hb] at HC;clear hn hf hs hns hL ht hb hs' q1 q3 etk hW hlen hwi
  go_enter Tryz.func13,Tryz.ntmps13
  go_wp2_with fail;refine (HC.out).mono ?_;rintro e w1 ⟨rfl,hg1⟩;obtain ⟨B,hB⟩:∃ B,w1.heap.size = B:=⟨_,rfl⟩;have hbn:=bld_new w1;rw [hB] at hbn;have hgn:=grow_new w1 (.cells #[.pointer none,.slice none 0 0] 59);have HB2:=Hh hbn;have HG2:=Hh (hg1.trans hgn);have HBE:=Hh hB;have hwB:w.heap.size ≤ B:=by rw [← hB];exact hg1.size
  have HN2:Hid (Nodes (w1.alloc (.cells #[.pointer none,.slice none 0 0] 59)) B A ns):=Hh ((HNS.out.below HG2.out).more hwB);have HL2:Hid (LaidG B (w1.alloc (.cells #[.pointer none,.slice none 0 0] 59))):=Hh ⟨w,HL.out,hwB,HG2.out⟩;have HS2:Hid (B ≤ (w1.alloc (.cells #[.pointer none,.slice none 0 0] 59)).heap.size):=Hh (by rw [← hB];exact hgn.size)
  clear hg1 hbn hgn hB HC HNS HL;go_wp2_with fail;rw [HBE.out];generalize w1.alloc (.cells #[.pointer none,.slice none 0 0] 59) = w2 at HB2 HG2 HN2 HL2 HS2 ⊢;refine (HWR.out B B w2 HN2.out HB2.out HS2.out HL2.out).mono ?_;rintro e w3 ⟨A',n',c',rfl,_,_,_,hb3,hB3⟩;have HST:=Hh (build_any B B ([] ++ noteF 16 ns) w3 hb3 (by rw [List.nil_append];exact HNE.out))
  have HG3:Hid (Grow w w3):=Hh (Below.trans HG2.out (Below.mono hB3 hwB));clear hb3 hB3 HWR;go_wp2_with fail;refine (HST.out).mono ?_;rintro e w4 ⟨rfl,hB4⟩;have HG4:Hid (Grow w w4):=Hh (Below.trans HG3.out (Below.mono hB4 hwB));clear hB4;go_wp2;go_ret;exact ⟨by rw [HF.out];rfl,HG4.out⟩
 ·have hb:(rightA ns && decide (ns = formA ns)) = false:=by
   rw [Bool.and_eq_false_iff]
   by_cases h1:rightA ns = true
   ·exact .inr (by rw [decide_eq_false_iff_not];exact fun e => ht ⟨h1,e.symm⟩)
   ·exact .inl (by simpa using h1)
  have HF:Hid (noteT ns = []):=Hh (by unfold noteT;rw [if_neg ht])
  rw [hb] at HC;clear hn hf hs hns hL ht hb hwi
  go_enter Tryz.func13,Tryz.ntmps13
  go_wp2_with fail;refine (HC.out).mono ?_;rintro e w1 ⟨rfl,hg1⟩;have HG1:=Hh hg1;clear hg1;go_wp2;go_ret;exact ⟨by rw [HF.out];rfl,HG1.out⟩
open Go.RowKit Go.Lib
def ParP (o:Option (List Nd)) (w:World) (e:Ending) (w':World):Prop :=
 Grow w w' ∧ match o with
  | none => e = .returned (.tuple #[.slice none 0 0,.bool false])
  | some a => ∃ A c,e = .returned (.tuple #[.slice A a.length c,.bool true]) ∧ a.length ≤ c ∧ NodesT (fun b => w.heap.size ≤ b ∧ b < w'.heap.size) w' A a
theorem pparse_any (s:List UInt8) (hl:s.length ≤ 100000) (w:World) (hL:LaidN w) :
  Calls Tryz.prog 11 #[.string ⟨s.toArray⟩] w (ParP (parseN s) w):=by
 rw [← parseP_is hl];obtain ⟨g,hg⟩:∃ g,w.heap.size = g:=⟨_,rfl⟩;have HGE:=Hh hg;have hat0:AtR g (.slice none 0 0) s (w.alloc (.cells #[.slice none 0 0,.string ⟨s.toArray⟩] 52)):=by rw [← hg];exact boxed_new _ _ _ _
 have hgn:=grow_new w (.cells #[.slice none 0 0,.string ⟨s.toArray⟩] 52);have hsz:(w.alloc (.cells #[.slice none 0 0,.string ⟨s.toArray⟩] 52)).heap.size = g + 1:=by rw [← hg];simp
 have hrd:Rd g (g + 1) [] s (w.alloc (.cells #[.slice none 0 0,.string ⟨s.toArray⟩] 52)):=⟨_,hat0,ownRN_nil (by rw [hsz];exact Nat.le_refl _),by omega,by rw [hsz];exact Nat.le_refl _,fun b hb => by cases hb⟩
 have HA:=Hh (array_any 16 1 (by decide) (by decide) g (g + 1) [] s _ hrd hl (by simp;omega) ⟨w,hL,by rw [hg];exact Nat.le_refl _,hgn⟩)
 have HG1:=Hh hgn;have HL:=Hh hL;have HM:Hid (parseP s = (arrayP 16 s).bind fun p => if noteT p.1 = s then some p.1 else none):=Hh rfl
 have HFI:=Hh (fun (p:List Nd × List UInt8) (h:arrayP 16 s = some p) => (show Fine p.1 ∧ Slim p.1 from ⟨array_fine hl h,array_slim hl h⟩));obtain ⟨S,hS⟩:∃ S,(⟨s.toArray⟩:ByteArray) = S:=⟨_,rfl⟩;have HSS:=Hh hS;rw [hS] at HA HG1 ⊢;clear hat0 hgn hsz hrd hL hS
 go_enter Tryz.func11,Tryz.ntmps11
 go_wp2_with fail;generalize w.alloc (.cells #[.slice none 0 0,.string S] 52) = w1 at HA HG1 ⊢;clear hg;refine (HA.out).mono ?_;rintro e w2 ⟨hb2,hx⟩;have HG2:Hid (Grow w w2):=Hh (Below.trans HG1.out (by rw [HGE.out];exact hb2))
 clear hb2 HA
 cases ha:arrayP 16 s with
 | none =>
  rw [ha] at hx;simp only at hx;subst hx;have HF:Hid (parseP s = none):=Hh (by rw [HM.out,ha];rfl)
  clear ha HFI;go_wp2;go_ret2;exact ⟨HG2.out,by rw [HF.out];rfl⟩
 | some p =>
  obtain ⟨hfi,hsl⟩:=HFI.out p ha;rw [ha] at hx;simp only [List.nil_append] at hx;obtain ⟨rfl,z,hrd⟩:=hx;obtain ⟨v,hat,ho,hz,hzw,hvz⟩:=hrd;obtain ⟨A,c,rfl,hac,hns⟩:=ho.nodes;have HT:=Hh (ptext_any A p.1.length c p.1 w2 rfl hac hfi hsl hns.nodes (HL.out.grow HG2.out));have HAT:=Hh hat;have HNS:=Hh hns;have HGS:Hid (w.heap.size ≤ g + 1):=Hh (by rw [HGE.out];omega)
  have hc:=Boxed.fst hat;have HM2:Hid (parseP s = if noteT p.1 = s then some p.1 else none):=Hh (by rw [HM.out,ha];rfl)
  obtain ⟨a,haa⟩:∃ a,p.1 = a:=⟨_,rfl⟩;rw [haa] at HT HNS hc HM2 hac HAT;clear ha HFI HM hat ho hz hzw hvz hns hfi hsl haa;obtain ⟨n,hn⟩:∃ n,a.length = n:=⟨_,rfl⟩;have HN:=Hh hn;rw [hn] at HT hc hac HAT;clear hn;go_wp2_with fail;refine (HT.out).mono ?_;rintro e w3 ⟨rfl,hg3⟩;have HG3:=Hh (HG2.out.trans hg3);have HNS3:Hid (NodesT (fun b => w.heap.size ≤ b ∧ b < w3.heap.size) w3 A a):=Hh (HNS.out.keep fun b hb => ⟨⟨by have:=HGS.out;have:=HGE.out;omega,Nat.lt_of_lt_of_le hb.2 hg3.size⟩,hg3.block b hb.2⟩)
  have hc3:=Boxed.fst (HAT.out.grow hg3);have hST:S.toList = s:=by rw [← HSS.out,Lib.toList_data]
  clear hg3 HNS HT hc HAT
  by_cases hq:noteT a = s
  ·have hqb:(noteT a == S.toList) = true:=by rw [hST,hq];simp
   have HF:Hid (parseP s = some a):=Hh (by rw [HM2.out,if_pos hq])
   clear hq hST HM2;go_wp2;go_ret2;exact ⟨HG3.out,by rw [HF.out];exact ⟨A,c,by rw [HN.out];rfl,by rw [HN.out];exact hac,HNS3.out⟩⟩
  ·have hqb:(noteT a == S.toList) = false:=by rw [hST,beq_eq_false_iff_ne];exact hq
   have HF:Hid (parseP s = none):=Hh (by rw [HM2.out,if_neg hq])
   clear hq hST HM2 hc3;go_wp2;go_ret2;exact ⟨HG3.out,by rw [HF.out];rfl⟩
open Go.RowKit Go.Lib
def abN:Nd:=⟨3,[2],[97,98],[]⟩
def rowN:List Nd:=[⟨5,[2],[],[]⟩,abN,⟨2,[],[3],[]⟩]
def chN:List Nd:=[⟨3,[0,2],[],[]⟩]
def inN:List Nd:=[⟨5,[],[],[]⟩,abN]
def deN:List Nd:=[⟨4,[],[],[(-15,-1)]⟩]
theorem q1:parseN [50,226,141,180,40,50,226,141,180,39,97,98,39,41,40,51,41] = some rowN:=by kernel_rfl
theorem q2:parseN [48,32,50,226,141,180,39,39] = some chN:=by kernel_rfl
theorem q3:parseN [50,226,141,180,40,49,41,40,51,41] = none:=by kernel_rfl
theorem q4:parseN [49,226,141,180,51,32,52] = none:=by kernel_rfl
theorem q5:parseN [51,32,52] = none:=by kernel_rfl
theorem q6:parseN [226,138,130,40,50,226,141,180,39,97,98,39,41] = some inN:=by kernel_rfl
theorem q7:parseN [194,175,49,53,69,194,175,49] = some deN:=by kernel_rfl
theorem q8:parseN [226,138,130,40,51,41] = none:=by kernel_rfl
theorem q9:noteT rowN = [50,226,141,180,40,50,226,141,180,39,97,98,39,41,40,51,41]:=by kernel_rfl
theorem q10:noteT [⟨2,[0],[],[]⟩] = [48,226,141,180,48]:=by kernel_rfl
theorem q11:noteT [⟨2,[],[1],[]⟩] = []:=by kernel_rfl
theorem q12:noteT [⟨3,[],[97],[]⟩] = [39,97,39]:=by kernel_rfl
def inB64 (x:Int):Bool:=decide (-9223372036854775808 ≤ x) && decide (x ≤ 9223372036854775807)
def fitB (n:Nd):Bool:=inB64 n.kind && (decide (n.shp.length ≤ 100000) && (decide (n.ints.length ≤ 100000) && (decide (n.decs.length ≤ 100000) && (n.decs.all (fun x => inB64 x.1 && inB64 x.2) && n.ints.all inB64))))
theorem inB_in {x:Int} (h:inB64 x = true):In x:=by
 simp only [inB64,Bool.and_eq_true,decide_eq_true_eq] at h;exact ⟨by omega,by omega⟩
theorem good_of {ns:List Nd} (hl:ns.length ≤ 1100000) (h:ns.all fitB = true):Fine ns ∧ Slim ns:=by
 rw [List.all_eq_true] at h;have key:∀ n ∈ ns,Fit n ∧ (∀ x ∈ n.ints,In x) ∧ n.ints.length ≤ 100000 ∧ n.decs.length ≤ 100000:=fun n hn => by
  have k:=h n hn;simp only [fitB,Bool.and_eq_true,decide_eq_true_eq,List.all_eq_true] at k;obtain ⟨k1,k2,k3,k4,k5,k6⟩:=k;exact ⟨⟨inB_in k1,by omega,by omega,by omega,fun x hx => ⟨inB_in (k5 x hx).1,inB_in (k5 x hx).2⟩⟩,fun x hx => inB_in (k6 x hx),k3,k4⟩
 exact ⟨⟨hl,fun n hn => (key n hn).1,fun n hn => (key n hn).2.1⟩,fun n hn => (key n hn).2.2⟩
theorem g1:Fine rowN ∧ Slim rowN:=good_of (by decide) (by decide)
theorem g2:Fine [⟨2,[0],[],[]⟩] ∧ Slim [⟨2,[0],[],[]⟩]:=good_of (by decide) (by decide)
theorem g3:Fine [⟨2,[],[1],[]⟩] ∧ Slim [⟨2,[],[1],[]⟩]:=good_of (by decide) (by decide)
theorem g4:Fine [⟨3,[],[97],[]⟩] ∧ Slim [⟨3,[],[97],[]⟩]:=good_of (by decide) (by decide)
theorem g5:Fine chN ∧ Slim chN:=good_of (by decide) (by decide)
theorem g6:Fine inN ∧ Slim inN:=good_of (by decide) (by decide)
theorem g7:Fine deN ∧ Slim deN:=good_of (by decide) (by decide)
theorem raw1 {w:World} {B:Nat} {A1 A2 A3:Option Addr} {l1 c1 l2 c2 l3 c3:Nat} {k:Int} {n:Nd} (hk:n.kind = k) (h1:n.shp.length = l1) (h2:n.ints.length = l2) (h3:n.decs.length = l3) (h:IsNd w B A1 A2 A3 n) :
  RawN w B [.int .i64 k,.slice A1 l1 c1,.slice A2 l2 c2,.slice A3 l3 c3] [n]:=by
 subst hk h1 h2 h3;refine ⟨rfl,fun i hi => ?_⟩;obtain rfl:i = 0:=by simpa using hi
 exact ⟨A1,c1,A2,c2,A3,c3,rfl,rfl,rfl,rfl,h⟩
theorem lit_nodes {w:World} {vals:List Value} {ns:List Nd} (h:RawN w w.heap.size vals ns):Nodes (w.alloc (.cells vals.toArray 34)) (w.alloc (.cells vals.toArray 34)).heap.size (some ⟨w.heap.size,0,none⟩) ns:=fun hp => by
 have hg:=grow_new w (.cells vals.toArray 34);have hn:=heap_alloc_new w (.cells vals.toArray 34);refine ⟨w.heap.size,0,rfl,by simp,fun i hi => ?_⟩
 obtain ⟨A1,c1,A2,c2,A3,c3,h0,h1,h2,h3,h4⟩:=h.2 i hi;have cell:∀ j v,vals[j]? = some v → (w.alloc (.cells vals.toArray 34)).cell? ⟨w.heap.size,j,none⟩ = some v:=fun j v hv => by
  rw [cell_of_row _ w.heap.size j _ _ (0,0) hn,List.getElem?_toArray];exact hv
 rw [Nat.zero_add];exact ⟨A1,c1,A2,c2,A3,c3,cell _ _ h0,cell _ _ h1,cell _ _ h2,cell _ _ h3,h4.grow hg⟩
theorem lit3 {w:World} {n1 n2 n3:Nd} (u1 u2 u3:List Value) (h1:RawN w w.heap.size u1 [n1]) (h2:RawN w w.heap.size u2 [n2]) (h3:RawN w w.heap.size u3 [n3]) :
  Nodes (w.alloc (.cells (u1 ++ (u2 ++ u3)).toArray 34)) (w.alloc (.cells (u1 ++ (u2 ++ u3)).toArray 34)).heap.size (some ⟨w.heap.size,0,none⟩) [n1,n2,n3]:=lit_nodes (h1.app (h2.app h3))
theorem lit2 {w:World} {n1 n2:Nd} (u1 u2:List Value) (h1:RawN w w.heap.size u1 [n1]) (h2:RawN w w.heap.size u2 [n2]) :
  Nodes (w.alloc (.cells (u1 ++ u2).toArray 34)) (w.alloc (.cells (u1 ++ u2).toArray 34)).heap.size (some ⟨w.heap.size,0,none⟩) [n1,n2]:=lit_nodes (h1.app h2)
theorem parse_yes {s:List UInt8} {a:List Nd} (h:parseN s = some a) {n:Nat} (hn:a.length = n) (hl:s.length ≤ 100000) {S:ByteArray} (hS:S = ⟨s.toArray⟩) (w:World) (hL:LaidN w) :
  Calls Tryz.prog 11 #[.string S] w fun e w' => Grow w w' ∧ ∃ A c,e = .returned (.tuple #[.slice A n c,.bool true]) ∧ n ≤ c ∧ Nodes w' w'.heap.size A a:=by
 subst hS;refine (pparse_any s hl w hL).mono ?_;rintro e w' ⟨hg,hx⟩;rw [h] at hx;obtain ⟨A,c,rfl,hc,hns⟩:=hx;rw [hn] at hc ⊢;exact ⟨hg,A,c,rfl,hc,hns.nodes⟩
theorem parse_no {s:List UInt8} (h:parseN s = none) (hl:s.length ≤ 100000) {S:ByteArray} (hS:S = ⟨s.toArray⟩) (w:World) (hL:LaidN w) :
  Calls Tryz.prog 11 #[.string S] w fun e w' => e = .returned (.tuple #[.slice none 0 0,.bool false]) ∧ Grow w w':=by
 subst hS;refine (pparse_any s hl w hL).mono ?_;rintro e w' ⟨hg,hx⟩;rw [h] at hx;exact ⟨hx,hg⟩
theorem text_says {ns:List Nd} {t:List UInt8} (h:noteT ns = t) {S:ByteArray} (hS:S = ⟨t.toArray⟩) (A:Option Addr) (n c:Nat) (w:World) (hn:ns.length = n) (hnc:n ≤ c) (hg:Fine ns ∧ Slim ns) (hns:Nodes w w.heap.size A ns) (hL:LaidN w) :
  Calls Tryz.prog 13 #[.slice A n c] w fun e w' => e = .returned (.string S) ∧ Grow w w':=by
 subst hS h;exact ptext_any A n c ns w hn hnc hg.1 hg.2 hns hL
theorem rsame_says {xs ys:List Nd} (h:decide (xs = ys) = true) (A A':Option Addr) (n n' cap cap':Nat) (w:World) (hn:xs.length = n) (hn':ys.length = n') (hf:Fine xs) (hf':Fine ys) (hr:Nodes w w.heap.size A xs) (hr':Nodes w w.heap.size A' ys) :
  Calls Tryz.prog 15 #[.slice A n cap,.slice A' n' cap'] w fun e w' => e = .returned (.bool true) ∧ Grow w w':=by
 have:=rsameN_any A A' n n' cap cap' xs ys w hn hn' (by have:=hf.1;omega) (by have:=hf'.1;omega) hf.2.1 hf'.2.1 hr hr'
 rw [h] at this;exact this
open Go.RowKit Go.Lib
theorem small_any (w:World) (hL:LaidN w):Calls Tryz.prog 9 #[] w (Says true w):=by
 obtain ⟨z,hz⟩:∃ z,w.heap.size = z:=⟨_,rfl⟩
 let w1:=w.alloc (.cells #[.int .i64 2] 3)
 let w2:=w1.alloc (.cells #[.int .i64 97,.int .i64 98] 3)
 let w3:=w2.alloc (.cells #[.int .i64 3,.slice (some ⟨z,0,none⟩) 1 1,.slice (some ⟨z + 1,0,none⟩) 2 2,.slice none 0 0] 34)
 let w4:=w3.alloc (.cells #[.int .i64 3] 3)
 let w5:=w4.alloc (.cells #[.int .i64 2,.slice none 0 0,.slice (some ⟨z + 3,0,none⟩) 1 1,.slice none 0 0] 34)
 let w6:=w5.alloc (.cells #[.int .i64 2] 3)
 let w7:=w6.alloc (.cells #[.int .i64 5,.slice (some ⟨z + 5,0,none⟩) 1 1,.slice none 0 0,.slice none 0 0,.int .i64 3,.slice (some ⟨z,0,none⟩) 1 1,.slice (some ⟨z + 1,0,none⟩) 2 2,.slice none 0 0,.int .i64 2,.slice none 0 0,.slice (some ⟨z + 3,0,none⟩) 1 1,.slice none 0 0] 34)
 have hs1:w1.heap.size = z + 1:=by simp [w1,hz]
 have hs2:w2.heap.size = z + 2:=by simp [w2,w1,hz]
 have hs3:w3.heap.size = z + 3:=by simp [w3,w2,w1,hz]
 have hs4:w4.heap.size = z + 4:=by simp [w4,w3,w2,w1,hz]
 have hs5:w5.heap.size = z + 5:=by simp [w5,w4,w3,w2,w1,hz]
 have hs6:w6.heap.size = z + 6:=by simp [w6,w5,w4,w3,w2,w1,hz]
 have g1:Grow w w1:=grow_new _ _;have g2:Grow w1 w2:=grow_new _ _;have g3:Grow w2 w3:=grow_new _ _;have g4:Grow w3 w4:=grow_new _ _;have g5:Grow w4 w5:=grow_new _ _;have g6:Grow w5 w6:=grow_new _ _;have g7:Grow w6 w7:=grow_new _ _
 have HAB:Hid (BoxN w7 (z + 2) 3 (some ⟨z,0,none⟩) 1 1 (some ⟨z + 1,0,none⟩) 2 2 none 0 0):=Hh (by
  have h:=boxN_new w2 3 (some ⟨z,0,none⟩) 1 1 (some ⟨z + 1,0,none⟩) 2 2 none 0 0;rw [hs2] at h
  exact (((BoxN.grow h g4).grow g5).grow g6).grow g7)
 have i1:IsNd w3 w3.heap.size (some ⟨z,0,none⟩) (some ⟨z + 1,0,none⟩) none abN:=by
  have h:=nums_lit w [2];rw [hz] at h;have h2:=nums_lit w1 [97,98];rw [hs1] at h2;exact ⟨(Nums.grow (Nums.grow h g2) g3),Nums.grow h2 g3,Decs.none_⟩
 have i2:IsNd w5 w5.heap.size none (some ⟨z + 3,0,none⟩) none ⟨2,[],[3],[]⟩:=by
  have h:=nums_lit w3 [3];rw [hs3] at h;exact ⟨Nums.none_,Nums.grow h g5,Decs.none_⟩
 have i3:IsNd w6 w6.heap.size (some ⟨z + 5,0,none⟩) none none ⟨5,[2],[],[]⟩:=by
  have h:=nums_lit w5 [2];rw [hs5] at h;exact ⟨h,Nums.none_,Decs.none_⟩
 have i1':IsNd w6 w6.heap.size (some ⟨z,0,none⟩) (some ⟨z + 1,0,none⟩) none abN:=((i1.grow g4).grow g5).grow g6;have HABN:Hid (IsNd w7 w7.heap.size (some ⟨z,0,none⟩) (some ⟨z + 1,0,none⟩) none abN):=Hh (i1'.grow g7)
 have HROW:Hid (Nodes w7 w7.heap.size (some ⟨z + 6,0,none⟩) rowN):=Hh (by
  have h:=lit3 (w:=w6) (n1:=⟨5,[2],[],[]⟩) (n2:=abN) (n3:=⟨2,[],[3],[]⟩) [.int .i64 5,.slice (some ⟨z + 5,0,none⟩) 1 1,.slice none 0 0,.slice none 0 0] [.int .i64 3,.slice (some ⟨z,0,none⟩) 1 1,.slice (some ⟨z + 1,0,none⟩) 2 2,.slice none 0 0] [.int .i64 2,.slice none 0 0,.slice (some ⟨z + 3,0,none⟩) 1 1,.slice none 0 0] (raw1 rfl rfl rfl rfl i3) (raw1 rfl rfl rfl rfl i1') (raw1 rfl rfl rfl rfl (i2.grow g6));rw [hs6] at h
  exact h)
 have HG:=Hh ((((((g1.trans g2).trans g3).trans g4).trans g5).trans g6).trans g7);have HL:=Hh hL;clear g1 g2 g3 g4 g5 g6 g7 hs1 hs2 hs3 hs4 hs5 hs6 i1 i2 i3 i1' hL
 go_enter Tryz.func9,Tryz.ntmps9
 go_upto_region 4 with fail
 obtain ⟨v3,hv3⟩:∃ v3,v3 = w7:=⟨_,rfl⟩;rw [← hv3] at HAB HABN HROW HG;change Code.wp _ _ _ _ w7;rw [← hv3];clear hv3;clear hz w7 w6 w5 w4 w3 w2 w1;go_wp2_with fail;refine (parse_yes q1 (n:=3) rfl (by decide) rfl _ (HL.out.grow HG.out)).mono ?_
 rintro e v4 ⟨hg,A4,c4,rfl,hc4,hn4⟩;replace HAB:=Hh (HAB.out.grow hg);replace HABN:=Hh (HABN.out.grow hg);replace HROW:=Hh (HROW.out.grow hg);replace HG:=Hh (HG.out.trans hg);have HN4:=Hh hn4;clear hn4;clear hg;go_wp2_with fail;refine (parse_yes q2 (n:=1) rfl (by decide) rfl _ (HL.out.grow HG.out)).mono ?_
 rintro e v5 ⟨hg,A5,c5,rfl,hc5,hn5⟩;replace HAB:=Hh (HAB.out.grow hg);replace HABN:=Hh (HABN.out.grow hg);replace HROW:=Hh (HROW.out.grow hg);replace HN4:=Hh (HN4.out.grow hg);replace HG:=Hh (HG.out.trans hg);have HN5:=Hh hn5;clear hn5;clear hg;go_wp2_with fail;refine (parse_no q3 (by decide) rfl _ (HL.out.grow HG.out)).mono ?_
 rintro e v6 ⟨rfl,hg⟩;replace HAB:=Hh (HAB.out.grow hg);replace HABN:=Hh (HABN.out.grow hg);replace HROW:=Hh (HROW.out.grow hg);replace HN4:=Hh (HN4.out.grow hg);replace HN5:=Hh (HN5.out.grow hg);replace HG:=Hh (HG.out.trans hg);clear hg;go_wp2_with fail;refine (parse_no q4 (by decide) rfl _ (HL.out.grow HG.out)).mono ?_
 rintro e v7 ⟨rfl,hg⟩;replace HAB:=Hh (HAB.out.grow hg);replace HABN:=Hh (HABN.out.grow hg);replace HROW:=Hh (HROW.out.grow hg);replace HN4:=Hh (HN4.out.grow hg);replace HN5:=Hh (HN5.out.grow hg);replace HG:=Hh (HG.out.trans hg);clear hg;go_wp2_with fail;refine (parse_no q5 (by decide) rfl _ (HL.out.grow HG.out)).mono ?_
 rintro e v8 ⟨rfl,hg⟩;replace HAB:=Hh (HAB.out.grow hg);replace HABN:=Hh (HABN.out.grow hg);replace HROW:=Hh (HROW.out.grow hg);replace HN4:=Hh (HN4.out.grow hg);replace HN5:=Hh (HN5.out.grow hg);replace HG:=Hh (HG.out.trans hg);clear hg;go_wp2_with fail;refine (parse_yes q6 (n:=2) rfl (by decide) rfl _ (HL.out.grow HG.out)).mono ?_
 rintro e v9 ⟨hg,A9,c9,rfl,hc9,hn9⟩;replace HAB:=Hh (HAB.out.grow hg);replace HABN:=Hh (HABN.out.grow hg);replace HROW:=Hh (HROW.out.grow hg);replace HN4:=Hh (HN4.out.grow hg);replace HN5:=Hh (HN5.out.grow hg);replace HG:=Hh (HG.out.trans hg);have HN9:=Hh hn9;clear hn9;clear hg;go_wp2_with fail;refine (parse_yes q7 (n:=1) rfl (by decide) rfl _ (HL.out.grow HG.out)).mono ?_
 rintro e v10 ⟨hg,A10,c10,rfl,hc10,hn10⟩;replace HAB:=Hh (HAB.out.grow hg);replace HABN:=Hh (HABN.out.grow hg);replace HROW:=Hh (HROW.out.grow hg);replace HN4:=Hh (HN4.out.grow hg);replace HN5:=Hh (HN5.out.grow hg);replace HN9:=Hh (HN9.out.grow hg);replace HG:=Hh (HG.out.trans hg);have HN10:=Hh hn10;clear hn10;clear hg;go_wp2_with fail;refine (parse_no empty_none (by decide) rfl _ (HL.out.grow HG.out)).mono ?_
 rintro e v11 ⟨rfl,hg⟩;replace HAB:=Hh (HAB.out.grow hg);replace HABN:=Hh (HABN.out.grow hg);replace HROW:=Hh (HROW.out.grow hg);replace HN4:=Hh (HN4.out.grow hg);replace HN5:=Hh (HN5.out.grow hg);replace HN9:=Hh (HN9.out.grow hg);replace HN10:=Hh (HN10.out.grow hg);replace HG:=Hh (HG.out.trans hg);clear hg;go_wp2_with fail;refine (parse_no q8 (by decide) rfl _ (HL.out.grow HG.out)).mono ?_
 rintro e v12 ⟨rfl,hg⟩;replace HAB:=Hh (HAB.out.grow hg);replace HABN:=Hh (HABN.out.grow hg);replace HROW:=Hh (HROW.out.grow hg);replace HN4:=Hh (HN4.out.grow hg);replace HN5:=Hh (HN5.out.grow hg);replace HN9:=Hh (HN9.out.grow hg);replace HN10:=Hh (HN10.out.grow hg);replace HG:=Hh (HG.out.trans hg);clear hg;go_wp2_with fail;refine (text_says q9 rfl _ 3 3 _ rfl (Nat.le_refl _) g1 HROW.out (HL.out.grow HG.out)).mono ?_;rintro e v13 ⟨rfl,hg⟩;replace HAB:=Hh (HAB.out.grow hg);replace HABN:=Hh (HABN.out.grow hg);replace HROW:=Hh (HROW.out.grow hg);replace HN4:=Hh (HN4.out.grow hg);replace HN5:=Hh (HN5.out.grow hg);replace HN9:=Hh (HN9.out.grow hg);replace HN10:=Hh (HN10.out.grow hg);replace HG:=Hh (HG.out.trans hg);clear hg;go_wp2_with fail;refine (rsame_says (xs:=rowN) (ys:=rowN) (by decide) _ _ 3 3 _ _ _ rfl rfl g1.1 g1.1 HN4.out HROW.out).mono ?_
 rintro e v14 ⟨rfl,hg⟩;replace HAB:=Hh (HAB.out.grow hg);replace HABN:=Hh (HABN.out.grow hg);replace HROW:=Hh (HROW.out.grow hg);replace HN4:=Hh (HN4.out.grow hg);replace HN5:=Hh (HN5.out.grow hg);replace HN9:=Hh (HN9.out.grow hg);replace HN10:=Hh (HN10.out.grow hg);replace HG:=Hh (HG.out.trans hg);clear hg;obtain ⟨y14,hy⟩:∃ y14,v14.heap.size = y14:=⟨_,rfl⟩;have hsz1:(v14.alloc (.cells #[.int .i64 0,.int .i64 2] 3)).heap.size = y14 + 1:=by simp [hy]
 have h1:=nums_lit v14 [0,2];rw [hy] at h1;have hb:Nodes ((v14.alloc (.cells #[.int .i64 0,.int .i64 2] 3)).alloc (.cells #[.int .i64 3,.slice (some ⟨y14,0,none⟩) 2 2,.slice none 0 0,.slice none 0 0] 34)) ((v14.alloc (.cells #[.int .i64 0,.int .i64 2] 3)).alloc (.cells #[.int .i64 3,.slice (some ⟨y14,0,none⟩) 2 2,.slice none 0 0,.slice none 0 0] 34)).heap.size (some ⟨y14 + 1,0,none⟩) chN:=by
  have h:=node_lit (v14.alloc (.cells #[.int .i64 0,.int .i64 2] 3)) 3 (some ⟨y14,0,none⟩) 2 2 none 0 0 none 0 0 ⟨3,[0,2],[],[]⟩ rfl rfl rfl rfl ⟨h1,Nums.none_,Decs.none_⟩;rw [hsz1] at h;exact h
 have HB:=Hh hb;have hgb:Grow v14 ((v14.alloc (.cells #[.int .i64 0,.int .i64 2] 3)).alloc (.cells #[.int .i64 3,.slice (some ⟨y14,0,none⟩) 2 2,.slice none 0 0,.slice none 0 0] 34)):=grow_new2 _ _ _;replace HAB:=Hh (HAB.out.grow hgb);replace HABN:=Hh (HABN.out.grow hgb);replace HROW:=Hh (HROW.out.grow hgb);replace HN4:=Hh (HN4.out.grow hgb);replace HN5:=Hh (HN5.out.grow hgb);replace HN9:=Hh (HN9.out.grow hgb);replace HN10:=Hh (HN10.out.grow hgb);replace HG:=Hh (HG.out.trans hgb);clear hgb;clear hsz1 hb;go_wp2_with fail;refine (rsame_says (xs:=chN) (ys:=chN) (by decide) _ _ 1 1 _ _ _ rfl rfl g5.1 g5.1 HN5.out HB.out).mono ?_
 rintro e v15 ⟨rfl,hg⟩;replace HAB:=Hh (HAB.out.grow hg);replace HABN:=Hh (HABN.out.grow hg);replace HROW:=Hh (HROW.out.grow hg);replace HN4:=Hh (HN4.out.grow hg);replace HN5:=Hh (HN5.out.grow hg);replace HN9:=Hh (HN9.out.grow hg);replace HN10:=Hh (HN10.out.grow hg);replace HG:=Hh (HG.out.trans hg);clear hg;have ha0:=HAB.out.at0;have ha1:=HAB.out.at1;have ha2:=HAB.out.at2;have ha3:=HAB.out.at3;obtain ⟨y15,hy⟩:∃ y15,v15.heap.size = y15:=⟨_,rfl⟩;have hb:Nodes (v15.alloc (.cells #[.int .i64 5,.slice none 0 0,.slice none 0 0,.slice none 0 0,.int .i64 3,.slice (some ⟨z,0,none⟩) 1 1,.slice (some ⟨z + 1,0,none⟩) 2 2,.slice none 0 0] 34)) (v15.alloc (.cells #[.int .i64 5,.slice none 0 0,.slice none 0 0,.slice none 0 0,.int .i64 3,.slice (some ⟨z,0,none⟩) 1 1,.slice (some ⟨z + 1,0,none⟩) 2 2,.slice none 0 0] 34)).heap.size (some ⟨y15,0,none⟩) inN:=by
  have h:=lit2 (w:=v15) (n1:=⟨5,[],[],[]⟩) (n2:=abN) [.int .i64 5,.slice none 0 0,.slice none 0 0,.slice none 0 0] [.int .i64 3,.slice (some ⟨z,0,none⟩) 1 1,.slice (some ⟨z + 1,0,none⟩) 2 2,.slice none 0 0] (raw1 rfl rfl rfl rfl ⟨Nums.none_,Nums.none_,Decs.none_⟩) (raw1 rfl rfl rfl rfl HABN.out);rw [hy] at h;exact h
 have HB:=Hh hb;have hgb:Grow v15 (v15.alloc (.cells #[.int .i64 5,.slice none 0 0,.slice none 0 0,.slice none 0 0,.int .i64 3,.slice (some ⟨z,0,none⟩) 1 1,.slice (some ⟨z + 1,0,none⟩) 2 2,.slice none 0 0] 34)):=grow_new _ _;replace HAB:=Hh (HAB.out.grow hgb);replace HABN:=Hh (HABN.out.grow hgb);replace HROW:=Hh (HROW.out.grow hgb);replace HN4:=Hh (HN4.out.grow hgb);replace HN5:=Hh (HN5.out.grow hgb);replace HN9:=Hh (HN9.out.grow hgb);replace HN10:=Hh (HN10.out.grow hgb);replace HG:=Hh (HG.out.trans hgb);clear hgb;clear hb;go_wp2_with fail;refine (rsame_says (xs:=inN) (ys:=inN) (by decide) _ _ 2 2 _ _ _ rfl rfl g6.1 g6.1 HN9.out HB.out).mono ?_
 rintro e v16 ⟨rfl,hg⟩;replace HAB:=Hh (HAB.out.grow hg);replace HABN:=Hh (HABN.out.grow hg);replace HROW:=Hh (HROW.out.grow hg);replace HN4:=Hh (HN4.out.grow hg);replace HN5:=Hh (HN5.out.grow hg);replace HN9:=Hh (HN9.out.grow hg);replace HN10:=Hh (HN10.out.grow hg);replace HG:=Hh (HG.out.trans hg);clear hg;clear ha0 ha1 ha2 ha3;obtain ⟨y16,hy⟩:∃ y16,v16.heap.size = y16:=⟨_,rfl⟩;have hsz1:(v16.alloc (.cells #[.int .i64 (-15),.int .i64 (-1)] 41)).heap.size = y16 + 1:=by simp [hy]
 have h1:=decs_lit v16 [(-15,-1)];rw [hy] at h1;have hb:Nodes ((v16.alloc (.cells #[.int .i64 (-15),.int .i64 (-1)] 41)).alloc (.cells #[.int .i64 4,.slice none 0 0,.slice none 0 0,.slice (some ⟨y16,0,none⟩) 1 1] 34)) ((v16.alloc (.cells #[.int .i64 (-15),.int .i64 (-1)] 41)).alloc (.cells #[.int .i64 4,.slice none 0 0,.slice none 0 0,.slice (some ⟨y16,0,none⟩) 1 1] 34)).heap.size (some ⟨y16 + 1,0,none⟩) deN:=by
  have h:=node_lit (v16.alloc (.cells #[.int .i64 (-15),.int .i64 (-1)] 41)) 4 none 0 0 none 0 0 (some ⟨y16,0,none⟩) 1 1 ⟨4,[],[],[(-15,-1)]⟩ rfl rfl rfl rfl ⟨Nums.none_,Nums.none_,h1⟩;rw [hsz1] at h;exact h
 have HB:=Hh hb;have hgb:Grow v16 ((v16.alloc (.cells #[.int .i64 (-15),.int .i64 (-1)] 41)).alloc (.cells #[.int .i64 4,.slice none 0 0,.slice none 0 0,.slice (some ⟨y16,0,none⟩) 1 1] 34)):=grow_new2 _ _ _;replace HAB:=Hh (HAB.out.grow hgb);replace HABN:=Hh (HABN.out.grow hgb);replace HROW:=Hh (HROW.out.grow hgb);replace HN4:=Hh (HN4.out.grow hgb);replace HN5:=Hh (HN5.out.grow hgb);replace HN9:=Hh (HN9.out.grow hgb);replace HN10:=Hh (HN10.out.grow hgb);replace HG:=Hh (HG.out.trans hgb);clear hgb;clear hsz1 hb;go_wp2_with fail;refine (rsame_says (xs:=deN) (ys:=deN) (by decide) _ _ 1 1 _ _ _ rfl rfl g7.1 g7.1 HN10.out HB.out).mono ?_
 rintro e v17 ⟨rfl,hg⟩;replace HAB:=Hh (HAB.out.grow hg);replace HABN:=Hh (HABN.out.grow hg);replace HROW:=Hh (HROW.out.grow hg);replace HN4:=Hh (HN4.out.grow hg);replace HN5:=Hh (HN5.out.grow hg);replace HN9:=Hh (HN9.out.grow hg);replace HN10:=Hh (HN10.out.grow hg);replace HG:=Hh (HG.out.trans hg);clear hg;obtain ⟨y17,hy⟩:∃ y17,v17.heap.size = y17:=⟨_,rfl⟩;have hsz1:(v17.alloc (.cells #[.int .i64 0] 3)).heap.size = y17 + 1:=by simp [hy]
 have h1:=nums_lit v17 [0];rw [hy] at h1;have hb:Nodes ((v17.alloc (.cells #[.int .i64 0] 3)).alloc (.cells #[.int .i64 2,.slice (some ⟨y17,0,none⟩) 1 1,.slice none 0 0,.slice none 0 0] 34)) ((v17.alloc (.cells #[.int .i64 0] 3)).alloc (.cells #[.int .i64 2,.slice (some ⟨y17,0,none⟩) 1 1,.slice none 0 0,.slice none 0 0] 34)).heap.size (some ⟨y17 + 1,0,none⟩) [⟨2,[0],[],[]⟩]:=by
  have h:=node_lit (v17.alloc (.cells #[.int .i64 0] 3)) 2 (some ⟨y17,0,none⟩) 1 1 none 0 0 none 0 0 ⟨2,[0],[],[]⟩ rfl rfl rfl rfl ⟨h1,Nums.none_,Decs.none_⟩;rw [hsz1] at h;exact h
 have HB:=Hh hb;have hgb:Grow v17 ((v17.alloc (.cells #[.int .i64 0] 3)).alloc (.cells #[.int .i64 2,.slice (some ⟨y17,0,none⟩) 1 1,.slice none 0 0,.slice none 0 0] 34)):=grow_new2 _ _ _;replace HAB:=Hh (HAB.out.grow hgb);replace HABN:=Hh (HABN.out.grow hgb);replace HROW:=Hh (HROW.out.grow hgb);replace HN4:=Hh (HN4.out.grow hgb);replace HN5:=Hh (HN5.out.grow hgb);replace HN9:=Hh (HN9.out.grow hgb);replace HN10:=Hh (HN10.out.grow hgb);replace HG:=Hh (HG.out.trans hgb);clear hgb;clear hsz1 hb;go_wp2_with fail;refine (text_says q10 rfl _ 1 1 _ rfl (Nat.le_refl _) g2 HB.out (HL.out.grow HG.out)).mono ?_;rintro e v18 ⟨rfl,hg⟩;replace HAB:=Hh (HAB.out.grow hg);replace HABN:=Hh (HABN.out.grow hg);replace HROW:=Hh (HROW.out.grow hg);replace HN4:=Hh (HN4.out.grow hg);replace HN5:=Hh (HN5.out.grow hg);replace HN9:=Hh (HN9.out.grow hg);replace HN10:=Hh (HN10.out.grow hg);replace HG:=Hh (HG.out.trans hg);clear hg;obtain ⟨y18,hy⟩:∃ y18,v18.heap.size = y18:=⟨_,rfl⟩;have hsz1:(v18.alloc (.cells #[.int .i64 1] 3)).heap.size = y18 + 1:=by simp [hy]
 have h1:=nums_lit v18 [1];rw [hy] at h1;have hb:Nodes ((v18.alloc (.cells #[.int .i64 1] 3)).alloc (.cells #[.int .i64 2,.slice none 0 0,.slice (some ⟨y18,0,none⟩) 1 1,.slice none 0 0] 34)) ((v18.alloc (.cells #[.int .i64 1] 3)).alloc (.cells #[.int .i64 2,.slice none 0 0,.slice (some ⟨y18,0,none⟩) 1 1,.slice none 0 0] 34)).heap.size (some ⟨y18 + 1,0,none⟩) [⟨2,[],[1],[]⟩]:=by
  have h:=node_lit (v18.alloc (.cells #[.int .i64 1] 3)) 2 none 0 0 (some ⟨y18,0,none⟩) 1 1 none 0 0 ⟨2,[],[1],[]⟩ rfl rfl rfl rfl ⟨Nums.none_,h1,Decs.none_⟩;rw [hsz1] at h;exact h
 have HB:=Hh hb;have hgb:Grow v18 ((v18.alloc (.cells #[.int .i64 1] 3)).alloc (.cells #[.int .i64 2,.slice none 0 0,.slice (some ⟨y18,0,none⟩) 1 1,.slice none 0 0] 34)):=grow_new2 _ _ _;replace HAB:=Hh (HAB.out.grow hgb);replace HABN:=Hh (HABN.out.grow hgb);replace HROW:=Hh (HROW.out.grow hgb);replace HN4:=Hh (HN4.out.grow hgb);replace HN5:=Hh (HN5.out.grow hgb);replace HN9:=Hh (HN9.out.grow hgb);replace HN10:=Hh (HN10.out.grow hgb);replace HG:=Hh (HG.out.trans hgb);clear hgb;clear hsz1 hb;go_wp2_with fail;refine (text_says q11 rfl _ 1 1 _ rfl (Nat.le_refl _) g3 HB.out (HL.out.grow HG.out)).mono ?_;rintro e v19 ⟨rfl,hg⟩;replace HAB:=Hh (HAB.out.grow hg);replace HABN:=Hh (HABN.out.grow hg);replace HROW:=Hh (HROW.out.grow hg);replace HN4:=Hh (HN4.out.grow hg);replace HN5:=Hh (HN5.out.grow hg);replace HN9:=Hh (HN9.out.grow hg);replace HN10:=Hh (HN10.out.grow hg);replace HG:=Hh (HG.out.trans hg);clear hg;obtain ⟨y19,hy⟩:∃ y19,v19.heap.size = y19:=⟨_,rfl⟩;have hsz1:(v19.alloc (.cells #[.int .i64 97] 3)).heap.size = y19 + 1:=by simp [hy]
 have h1:=nums_lit v19 [97];rw [hy] at h1;have hb:Nodes ((v19.alloc (.cells #[.int .i64 97] 3)).alloc (.cells #[.int .i64 3,.slice none 0 0,.slice (some ⟨y19,0,none⟩) 1 1,.slice none 0 0] 34)) ((v19.alloc (.cells #[.int .i64 97] 3)).alloc (.cells #[.int .i64 3,.slice none 0 0,.slice (some ⟨y19,0,none⟩) 1 1,.slice none 0 0] 34)).heap.size (some ⟨y19 + 1,0,none⟩) [⟨3,[],[97],[]⟩]:=by
  have h:=node_lit (v19.alloc (.cells #[.int .i64 97] 3)) 3 none 0 0 (some ⟨y19,0,none⟩) 1 1 none 0 0 ⟨3,[],[97],[]⟩ rfl rfl rfl rfl ⟨Nums.none_,h1,Decs.none_⟩;rw [hsz1] at h;exact h
 have HB:=Hh hb;have hgb:Grow v19 ((v19.alloc (.cells #[.int .i64 97] 3)).alloc (.cells #[.int .i64 3,.slice none 0 0,.slice (some ⟨y19,0,none⟩) 1 1,.slice none 0 0] 34)):=grow_new2 _ _ _;replace HAB:=Hh (HAB.out.grow hgb);replace HABN:=Hh (HABN.out.grow hgb);replace HROW:=Hh (HROW.out.grow hgb);replace HN4:=Hh (HN4.out.grow hgb);replace HN5:=Hh (HN5.out.grow hgb);replace HN9:=Hh (HN9.out.grow hgb);replace HN10:=Hh (HN10.out.grow hgb);replace HG:=Hh (HG.out.trans hgb);clear hgb;clear hsz1 hb;go_wp2_with fail;refine (text_says q12 rfl _ 1 1 _ rfl (Nat.le_refl _) g4 HB.out (HL.out.grow HG.out)).mono ?_;rintro e v20 ⟨rfl,hg⟩;replace HAB:=Hh (HAB.out.grow hg);replace HABN:=Hh (HABN.out.grow hg);replace HROW:=Hh (HROW.out.grow hg);replace HN4:=Hh (HN4.out.grow hg);replace HN5:=Hh (HN5.out.grow hg);replace HN9:=Hh (HN9.out.grow hg);replace HN10:=Hh (HN10.out.grow hg);replace HG:=Hh (HG.out.trans hg);clear hg;go_wp2;go_ret;exact ⟨rfl,HG.out⟩
open Go.RowKit Go.Lib
theorem parse_slim {s:List UInt8} {a:List Nd} (hs:s.length ≤ 100000) (h:parseN s = some a):Fine a ∧ Slim a:=by
 refine ⟨parse_fine hs h,?_⟩;unfold parseN at h
 cases hq:readR 16 s with
 | none => rw [hq] at h;cases h
 | some p =>
  rw [hq,Option.bind_some] at h;split at h
  ·cases h
   exact (readR_took 16 s p.1 p.2 hs hq).2.2.2
  ·cases h
theorem parse_ne {s:List UInt8} {a:List Nd} (h:parseN s = some a):s ≠ []:=by
 rintro rfl;rw [empty_none] at h
 cases h
theorem parse_all {s:List UInt8} {a:List Nd} (hs:s.length ≤ 100000) (h:parseN s = some a):Fine a ∧ Slim a ∧ rightA a = true ∧ formA a = a ∧ noteA a = s ∧ noteT a = s:=by
 obtain ⟨h1,h2⟩:=parse_slim hs h;obtain ⟨h3,h4,h5⟩:=parse_some h (parse_ne h);exact ⟨h1,h2,h3,h4,h5,by unfold noteT;rw [if_pos ⟨h3,h4⟩];exact h5⟩
open Go.RowKit Go.Lib
theorem few_slim {ns:List Nd} (h:fewB ns = true):Slim ns:=fun n hn => by
 have hl:=few_len h;simp only [fewB,Bool.and_eq_true,decide_eq_true_eq] at h;rw [List.take_of_length_le (by omega)] at h
 have h1:=List.all_eq_true.1 h.1 n hn;simp only [okF,Bool.and_eq_true,decide_eq_true_eq] at h1;omega
theorem few_fine {w:World} {a:Option Addr} {len cap:Nat} {ns:List Nd} (h:IsNodes w a len cap ns) (hf:fewB ns = true):Fine ns ∧ Slim ns ∧ len ≤ 100:=by
 have hl:=few_len hf;exact ⟨⟨by omega,few_fits h hf,fun n hn => (h.2.2.2.2 n hn).2.2.2.2.2⟩,few_slim hf,by have:=h.1;omega⟩
open Go.RowKit Go.Lib
def pk (k v:Int):Bool:=if k = 1 then bitB v else if k = 3 then signB v else true
theorem fill_low {n:Nd} {c:Nat} (h1:1 ≤ n.kind) (h3:n.kind ≤ 3):fillB n c = ((n.ints.length == c && n.decs.length == 0) && n.ints.all (pk n.kind)):=by
 have hk:n.kind = 1 ∨ n.kind = 2 ∨ n.kind = 3:=by omega
 rcases hk with h | h | h
 ·have e:pk n.kind = bitB:=by funext v;simp [pk,h]
  rw [e];simp [fillB,h]
 ·have e:pk n.kind = fun _ => true:=by funext v;simp [pk,h]
  rw [e];simp [fillB,h]
 ·have e:pk n.kind = signB:=by funext v;simp [pk,h]
  rw [e];simp [fillB,h]
theorem pk_bad {k v:Int}:pk k v = false ↔ (k = 1 ∧ v ≠ 0 ∧ v ≠ 1) ∨ (k = 3 ∧ (v < 0 ∨ 1114111 < v ∨ (55296 ≤ v ∧ v ≤ 57343))):=by
 unfold pk bitB signB
 by_cases h1:k = 1
 ·simp [h1]
 ·by_cases h3:k = 3
  ·simp [h3];omega
  ·simp [h1,h3]
theorem pk_good {k v:Int}:pk k v = true ↔ ¬ ((k = 1 ∧ v ≠ 0 ∧ v ≠ 1) ∨ (k = 3 ∧ (v < 0 ∨ 1114111 < v ∨ (55296 ≤ v ∧ v ≤ 57343)))):=by
 rw [← pk_bad]
 cases pk k v <;> simp
theorem rnode_any (n:Nd) (A1 A2 A3:Option Addr) (c1 c2 c3:Nat) (w:World) (hf:Fit n) (hn:IsNd w w.heap.size A1 A2 A3 n) :
  Calls Tryz.prog 140 #[.agg #[.int .i64 n.kind,.slice A1 n.shp.length c1,.slice A2 n.ints.length c2,.slice A3 n.decs.length c3]] w (SaysN (itm n) (okB n) w):=by
 obtain ⟨C,hC⟩:∃ C,cnt n.shp = C:=⟨_,rfl⟩;obtain ⟨β,hβ⟩:∃ β,rightB n.shp = β:=⟨_,rfl⟩;have hC1:C ≤ 1048576:=hC ▸ cnt_le1 _;have hm:n.shp.length ≤ 9223372036854775807:=by have:=hf.2.1;omega
 have HCO:=Hh (fun W h => rcount_any A1 n.shp.length c1 n.shp W rfl hm h);rw [hC,hβ] at HCO;have h2:=hf.2.2.1;have h3:=hf.2.2.2.1;have HI:=Hh hf.2.2.2.2;have HO:Hid (okB n = (β && fillB n C)):=Hh (by unfold okB;rw [hβ,hC])
 have HT:Hid (okB n = true → itm n = C):=Hh (fun h => by unfold itm;rw [if_pos h,hC])
 have HF:Hid (okB n = false → itm n = 0):=Hh (fun h => by unfold itm;rw [h];rfl)
 have HLOW:=Hh (fill_low (n:=n) (c:=C));have HK4:=Hh ((fill_kind (n:=n) (c:=C)).2.2.2.1);have HK5:=Hh ((fill_kind (n:=n) (c:=C)).2.2.2.2);have HK0:=Hh (fill_other (n:=n) (c:=C));have HN1:=Hh hn.1;have HN2:=Hh hn.2.1;have HN3:=Hh hn.2.2;clear hf hn hC hβ;generalize okB n = ω at *;generalize itm n = ι at *;generalize fillB n C = φ at *;obtain ⟨k,sh,xs,ds⟩:=n;dsimp only at *;obtain ⟨l1,hl1⟩:∃ l1,sh.length = l1:=⟨_,rfl⟩;obtain ⟨l2,hl2⟩:∃ l2,xs.length = l2:=⟨_,rfl⟩;obtain ⟨l3,hl3⟩:∃ l3,ds.length = l3:=⟨_,rfl⟩;rw [hl1] at HCO ⊢;rw [hl2] at HLOW HK4 HK5 h2 ⊢;rw [hl3] at HLOW HK4 HK5 h3 ⊢;have HL2:=Hh hl2;have HL3:=Hh hl3;clear hl1 hl2 hl3;have hbx:=boxN_new w k A1 l1 c1 A2 l2 c2 A3 l3 c3;have HG:=Hh (grow_new w (.cells #[.int .i64 k,.slice A1 l1 c1,.slice A2 l2 c2,.slice A3 l3 c3] 34));obtain ⟨w1,hw1⟩:∃ w1,w1 = w.alloc (.cells #[.int .i64 k,.slice A1 l1 c1,.slice A2 l2 c2,.slice A3 l3 c3] 34):=⟨_,rfl⟩;rw [← hw1] at hbx HG;have HN1':=Hh (HN1.out.grow HG.out);have HN2':=Hh (HN2.out.grow HG.out);have HN3':=Hh (HN3.out.grow HG.out);have e0:=hbx.at0;have e1:=hbx.at1;have e2:=hbx.at2;have e3:=hbx.at3;have HW:=Hh hw1;clear hbx HN1 HN2 HN3;have HNO:Hid (∀ w',Grow w w' → ω = false → SaysN ι ω w (.returned (.tuple #[.int .i64 0,.bool false])) w'):=Hh (fun w' h1 h2 => ⟨by rw [HF.out h2,h2];rfl,h1⟩)
 have HYES:Hid (∀ w',Grow w w' → ω = true → SaysN ι ω w (.returned (.tuple #[.int .i64 (C:Nat),.bool true])) w'):=Hh (fun w' h1 h2 => ⟨by rw [HT.out h2,h2],h1⟩)
 clear HF HT;rw [hw1] at e0 e1 e2 e3
 go_enter Tryz.func140,Tryz.ntmps140
 go_wp2_with fail;refine (HCO.out _ (HW.out ▸ HN1'.out)).mono ?_;rintro e w2 ⟨rfl,hw2⟩;rw [hw2];rw [← HW.out] at e0 e1 e2 e3 ⊢;clear hw2 hw1 HCO HN1'
 cases β with
 | false =>
  have HB:Hid (ω = false):=Hh (by rw [HO.out];rfl)
  clear HO HLOW HK4 HK5 HK0 HYES;go_wp2;go_ret2;exact HNO.out _ HG.out HB.out
 | true =>
  have HO':Hid (ω = φ):=Hh (by rw [HO.out];rfl)
  clear HO
  by_cases k1:k < 1
  ·have HB:Hid (ω = false):=Hh (by rw [HO'.out];exact HK0.out (by omega) (by omega) (by omega) (by omega) (by omega))
   clear HLOW HK4 HK5 HK0 HYES;go_wp2;go_ret2;exact HNO.out _ HG.out HB.out
  by_cases k5:5 < k
  ·have HB:Hid (ω = false):=Hh (by rw [HO'.out];exact HK0.out (by omega) (by omega) (by omega) (by omega) (by omega))
   clear HLOW HK4 HK5 HK0 HYES;go_wp2;go_ret2;exact HNO.out _ HG.out HB.out
  clear HK0
  by_cases k4:4 ≤ k
  ·by_cases kk:k = 4
   ·subst kk
    have HP:Hid (ω = ((l2 == 0 && l3 == C) && ds.all decB)):=Hh (by rw [HO'.out];exact HK4.out rfl)
    clear HLOW HK4 HK5 HO'
    by_cases q2:l2 = 0
    ·subst q2
     by_cases q3:l3 = C
     ·subst q3
      have hb:(((l3:Nat):Int) != ((l3:Nat):Int)) = false:=by simp
      have HP':Hid (ω = ds.all decB):=Hh (by rw [HP.out];simp)
      clear HP;go_wp2
      go_loopg [8] 0 (fun g s8 wr => s8 = .int .i64 0 ∧ g = 0 ∧ w1 = wr)
      case atStart => exact ⟨rfl,rfl,rfl⟩
      case round =>
       obtain ⟨rfl,rfl,rfl⟩:=hrel;go_wp2
       go_loopg [10] l3 (fun g s10 wr => ∃ j:Nat,j ≤ l3 ∧ g = l3 - j ∧ s10 = .int .i64 j ∧ Hid ((ds.drop j).all decB = ds.all decB) ∧ Hid (Grow w1 wr))
       case atStart => exact ⟨0,Nat.zero_le _,rfl,rfl,Hh rfl,Hh (Grow.refl _)⟩
       case round =>
        obtain ⟨j,hj,rfl,rfl,HA,HGW⟩:=hrel;have hbw:BoxN wr w.heap.size 4 A1 l1 c1 A2 0 c2 A3 l3 c3:=by
         have hb0:=boxN_new w 4 A1 l1 c1 A2 0 c2 A3 l3 c3;rw [← HW.out] at hb0;exact hb0.grow HGW.out
        have f3:=hbw.at3;clear hbw
        by_cases hlt:j < l3
        ·have hkl:j < ds.length:=by rw [HL3.out];exact hlt
         obtain ⟨b,off,rfl,hb2,hcl⟩:=HN3'.out.grow HGW.out (by omega)
         obtain ⟨hc1,hc2⟩:=hcl j hkl;have HTR:=Hh (fun h => alld_drop (p:=decB) hkl h);have HFA:=Hh (fun h => alld_fails (p:=decB) hkl h);have hin:=in_at HI.out j;clear hcl hkl hb2;generalize ds.getD j (0,0) = x at hc1 hc2 HTR HFA hin;obtain ⟨x1,x2⟩:=x;dsimp only at hc1 hc2 hin
         cases hx:decB (x1,x2) with
         | true =>
          have HT':=Hh (HTR.out hx);have HB:=Hh (fun W => rright_any x1 x2 W hin.1 hin.2);rw [show rightD x1 x2 = true from hx] at HB;clear hx HTR HFA hin;go_wp2_with fail;refine (HB.out _).mono ?_;rintro e w3 ⟨rfl,hg3⟩;go_wp2;go_roundg (l3 - (j + 1))
          case rel => exact ⟨j + 1,by omega,rfl,by go_num,Hh (HT'.out.symm.trans HA.out),Hh (HGW.out.trans hg3)⟩
          case measure => omega
         | false =>
          have HF':=Hh (HFA.out hx);have HB:=Hh (fun W => rright_any x1 x2 W hin.1 hin.2);rw [show rightD x1 x2 = false from hx] at HB;clear hx HTR HFA hin;go_wp2_with fail;refine (HB.out _).mono ?_;rintro e w3 ⟨rfl,hg3⟩;go_wp2;go_ret2;exact HNO.out _ (HG.out.trans (HGW.out.trans hg3)) (by rw [HP'.out,← HA.out,HF'.out])
        ·obtain rfl:l3 = j:=by omega
         have HE:Hid (ds.all decB = true):=Hh (by rw [← HA.out,← HL3.out,List.drop_length];rfl)
         go_wp2;go_ret2;exact HYES.out _ (HG.out.trans HGW.out) (by rw [HP'.out,HE.out])
     ·have hb:(((l3:Nat):Int) != ((C:Nat):Int)) = true:=by simp;omega
      have HB:Hid (ω = false):=Hh (by rw [HP.out];simp [q3])
      clear HP HYES;go_wp2;go_ret2;exact HNO.out _ HG.out HB.out
    ·have hb:(((l2:Nat):Int) != 0) = true:=by simp;omega
     have HB:Hid (ω = false):=Hh (by rw [HP.out];simp [q2])
     clear HP HYES;go_wp2;go_ret2;exact HNO.out _ HG.out HB.out
   ·obtain rfl:k = 5:=by omega
    have HP:Hid (ω = (l2 == 0 && l3 == 0)):=Hh (by rw [HO'.out];exact HK5.out rfl)
    clear HLOW HK4 HK5 HO'
    by_cases q2:l2 = 0
    ·subst q2
     by_cases q3:l3 = 0
     ·subst q3
      have HB:Hid (ω = true):=Hh (by rw [HP.out];rfl)
      clear HP;go_wp2
      go_loopg [8] 0 (fun g s8 wr => s8 = .int .i64 0 ∧ g = 0 ∧ w1 = wr)
      case atStart => exact ⟨rfl,rfl,rfl⟩
      case round =>
       obtain ⟨rfl,rfl,rfl⟩:=hrel;go_wp2
       go_loopg [10] 0 (fun g s10 wr => s10 = .int .i64 0 ∧ g = 0 ∧ w1 = wr)
       case atStart => exact ⟨rfl,rfl,rfl⟩
       case round =>
        obtain ⟨rfl,rfl,rfl⟩:=hrel;go_wp2;go_ret2;exact HYES.out _ HG.out HB.out
     ·have hb:(((l3:Nat):Int) != 0) = true:=by simp;omega
      have HB:Hid (ω = false):=Hh (by rw [HP.out];simp [q3])
      clear HP HYES;go_wp2;go_ret2;exact HNO.out _ HG.out HB.out
    ·have hb:(((l2:Nat):Int) != 0) = true:=by simp;omega
     have HB:Hid (ω = false):=Hh (by rw [HP.out];simp [q2])
     clear HP HYES;go_wp2;go_ret2;exact HNO.out _ HG.out HB.out
  ·have k4b:(k == 4) = false:=by simp;omega
   have HP:Hid (ω = ((l2 == C && l3 == 0) && xs.all (pk k))):=Hh (by rw [HO'.out];exact HLOW.out (by omega) (by omega))
   clear HLOW HK4 HK5 HO'
   by_cases q2:l2 = C
   ·subst q2
    have hb:(((l2:Nat):Int) != ((l2:Nat):Int)) = false:=by simp
    by_cases q3:l3 = 0
    ·subst q3
     have HP':Hid (ω = xs.all (pk k)):=Hh (by rw [HP.out];simp)
     clear HP;go_wp2
     go_loopg [8] l2 (fun g s8 wr => ∃ j:Nat,j ≤ l2 ∧ g = l2 - j ∧ s8 = .int .i64 j ∧ Hid ((xs.drop j).all (pk k) = xs.all (pk k)) ∧ w1 = wr)
     case atStart => exact ⟨0,Nat.zero_le _,rfl,rfl,Hh rfl,rfl⟩
     case round =>
      obtain ⟨j,hj,rfl,rfl,HA,rfl⟩:=hrel
      by_cases hlt:j < l2
      ·have hkl:j < xs.length:=by rw [HL2.out];exact hlt
       obtain ⟨b,off,rfl,hb2,hcl⟩:=HN2'.out (by omega)
       have hc:=hcl j hkl;have HTR:=Hh (fun h => all_drop (p:=pk k) hkl h);have HFA:=Hh (fun h => all_fails (p:=pk k) hkl h);clear hcl hkl hb2;generalize xs.getD j 0 = v at hc HTR HFA
       cases hx:pk k v with
       | true =>
        have HT':=Hh (HTR.out hx);have hgood:=pk_good.1 hx;clear hx HTR HFA
        by_cases kk1:k = 1
        ·subst kk1
         by_cases v0:v = 0
         ·subst v0
          go_wp2;go_roundg (l2 - (j + 1))
          case rel => exact ⟨j + 1,by omega,rfl,by go_num,Hh (HT'.out.symm.trans HA.out),rfl⟩
          case measure => omega
         ·obtain rfl:v = 1:=by omega
          go_wp2;go_roundg (l2 - (j + 1))
          case rel => exact ⟨j + 1,by omega,rfl,by go_num,Hh (HT'.out.symm.trans HA.out),rfl⟩
          case measure => omega
        ·have kb1:(k == 1) = false:=by simpa using kk1
         by_cases kk3:k = 3
         ·subst kk3
          have v1:¬ v < 0:=by omega
          have v2:¬ 1114111 < v:=by omega
          by_cases v3:55296 ≤ v
          ·have v4:¬ v ≤ 57343:=by omega
           clear hgood;go_wp2;go_roundg (l2 - (j + 1))
           case rel => exact ⟨j + 1,by omega,rfl,by go_num,Hh (HT'.out.symm.trans HA.out),rfl⟩
           case measure => omega
          ·clear hgood
           go_wp2;go_roundg (l2 - (j + 1))
           case rel => exact ⟨j + 1,by omega,rfl,by go_num,Hh (HT'.out.symm.trans HA.out),rfl⟩
           case measure => omega
         ·have kb3:(k == 3) = false:=by simpa using kk3
          clear hgood;go_wp2;go_roundg (l2 - (j + 1))
          case rel => exact ⟨j + 1,by omega,rfl,by go_num,Hh (HT'.out.symm.trans HA.out),rfl⟩
          case measure => omega
       | false =>
        have HF':=Hh (HFA.out hx);have hbad:=pk_bad.1 hx;have HB:Hid (ω = false):=Hh (by rw [HP'.out,← HA.out,HF'.out])
        clear hx HTR HFA
        rcases hbad with ⟨rfl,v0,v1⟩ | ⟨rfl,hv⟩
        ·have b0:(v != 0) = true:=by simpa using v0
         have b1:(v != 1) = true:=by simpa using v1
         go_wp2;go_ret2;exact HNO.out _ HG.out HB.out
        ·by_cases v1:v < 0
         ·clear hv
          go_wp2;go_ret2;exact HNO.out _ HG.out HB.out
         ·by_cases v2:1114111 < v
          ·clear hv
           go_wp2;go_ret2;exact HNO.out _ HG.out HB.out
          ·have v3:55296 ≤ v:=by omega
           have v4:v ≤ 57343:=by omega
           clear hv;go_wp2;go_ret2;exact HNO.out _ HG.out HB.out
      ·obtain rfl:l2 = j:=by omega
       have HE:Hid (ω = true):=Hh (by rw [HP'.out,← HA.out,← HL2.out,List.drop_length];rfl)
       go_wp2
       go_loopg [10] 0 (fun g s10 wr => s10 = .int .i64 0 ∧ g = 0 ∧ w1 = wr)
       case atStart => exact ⟨rfl,rfl,rfl⟩
       case round =>
        obtain ⟨rfl,rfl,rfl⟩:=hrel;go_wp2;go_ret2;exact HYES.out _ HG.out HE.out
    ·have hb3:(((l3:Nat):Int) != 0) = true:=by simp;omega
     have HB:Hid (ω = false):=Hh (by rw [HP.out];simp [q3])
     clear HP HYES;go_wp2;go_ret2;exact HNO.out _ HG.out HB.out
   ·have hb:(((l2:Nat):Int) != ((C:Nat):Int)) = true:=by simp;omega
    have HB:Hid (ω = false):=Hh (by rw [HP.out];simp [q2])
    clear HP HYES;go_wp2;go_ret2;exact HNO.out _ HG.out HB.out
open Go.RowKit Go.Lib
def rf (d:Nat) (l:List Nd):Option St:=(par d l).bind fun s => if s.i ≤ 1048576 then some s else none
theorem rf_nil (d:Nat):rf d [] = none:=by unfold rf;rw [par_nil];rfl
theorem rf_zero (l:List Nd):rf 0 l = none:=rfl
theorem rf_bad {d:Nat} {n:Nd} {l:List Nd} (h:okB n = false):rf (d + 1) (n :: l) = none:=by unfold rf;rw [par_cons,h];rfl
theorem rf_some {d:Nat} {l:List Nd} {s:St} (h:rf d l = some s):par d l = some s ∧ s.i ≤ 1048576:=by
 unfold rf at h
 cases hp:par d l with
 | none => simp [hp] at h
 | some u =>
  simp only [hp,Option.bind_some] at h;split at h
  ·cases h;exact ⟨rfl,by assumption⟩
  ·cases h
theorem rf_leaf {d:Nat} {n:Nd} {l:List Nd} (h:okB n = true) (hk:n.kind ≠ 5):rf (d + 1) (n :: l) = some (top n st0):=by
 have hkc:kc n = 0:=by simp [kc,hk]
 have hc:=cnt_le1 n.shp;unfold rf;rw [par_mk h (by rw [hkc];exact parK_zero _ _),Option.bind_some,if_pos]
 simp only [top,st0];omega
theorem rf_nest {d:Nat} {n:Nd} {l:List Nd} {t:St} (h:okB n = true) (hk:n.kind = 5) (ht:parK (par d) (cnt n.shp) l = some t) (hi:t.i + cnt n.shp ≤ 1048576):rf (d + 1) (n :: l) = some (top n t):=by
 have hkc:kc n = cnt n.shp:=by simp [kc,hk]
 unfold rf;rw [par_mk h (by rw [hkc];exact ht),Option.bind_some,if_pos]
 exact hi
theorem rf_no {d j:Nat} {n:Nd} {l:List Nd} {t:St} (h:okB n = true) (hk:n.kind = 5) (hj:j < cnt n.shp) (ht:parK (par d) j l = some t)
  (hno:rf d (l.drop t.n) = none ∨ ∃ s,rf d (l.drop t.n) = some s ∧ 1048576 < t.i + cnt n.shp + s.i):rf (d + 1) (n :: l) = none:=by
 have hkc:kc n = cnt n.shp:=by simp [kc,hk]
 unfold rf;rw [par_cons,if_pos h,hkc]
 cases hp:parK (par d) (cnt n.shp) l with
 | none => rfl
 | some u =>
  rw [Option.map_some,Option.bind_some,if_neg];obtain ⟨a,ha,_,hai,_⟩:=parK_to hp (j + 1) (by omega)
  obtain ⟨t',b,ht',hb',rfl⟩:=parK_some ha;rw [ht] at ht'
  cases ht'
  have hgt:1048576 < t.i + cnt n.shp + b.i:=by
   rcases hno with h0 | ⟨s,hs,hg⟩
   ·unfold rf at h0
    rw [hb',Option.bind_some] at h0
    by_cases hle:b.i ≤ 1048576
    ·rw [if_pos hle] at h0;cases h0
    ·omega
   ·have:=(rf_some hs).1
    rw [hb'] at this
    cases this
    exact hg
  simp only [top,St.plus] at hai ⊢;omega
def FstP (o:Option St) (w:World) (e:Ending) (w':World):Prop:=e = .returned (.tuple #[.int .i64 ((o.getD st0).n:Nat),.int .i64 ((o.getD st0).i:Nat),.int .i64 ((o.getD st0).d:Nat)]) ∧ Grow w w'
theorem FstP.no {o:Option St} {w w':World} (h:o = none) (hg:Grow w w'):FstP o w (.returned (.tuple #[.int .i64 0,.int .i64 0,.int .i64 0])) w':=by subst h;exact ⟨rfl,hg⟩
theorem FstP.yes {o:Option St} {s:St} {w w':World} (h:o = some s) (hg:Grow w w'):FstP o w (.returned (.tuple #[.int .i64 (s.n:Nat),.int .i64 (s.i:Nat),.int .i64 (s.d:Nat)])) w':=by subst h;exact ⟨rfl,hg⟩
theorem rfirst_any:∀ (d:Nat) (A:Option Addr) (n c:Nat) (ns:List Nd) (w:World),d ≤ 16 → ns.length = n → n ≤ 1100000 → n ≤ c → Fits ns → Nodes w w.heap.size A ns →
  Calls Tryz.prog 106 #[.slice A n c,.int .i64 (d:Nat)] w (FstP (rf d ns) w):=by
 intro d
 induction d with
 | zero =>
  intro A n c ns w hd hn hnb hnc hf hns;clear hns hf
  by_cases h0:n = 0
  ·subst h0
   go_enter Tryz.func106,Tryz.ntmps106
   go_wp2;go_ret3;exact FstP.no (rf_zero ns) (Grow.refl _)
  ·have hb:(((n:Nat):Int) == 0) = false:=by simp;omega
   go_enter Tryz.func106,Tryz.ntmps106
   go_wp2;go_ret3;exact FstP.no (rf_zero ns) (Grow.refl _)
 | succ d ih =>
  intro A n c ns w hd hn hnb hnc hf hns;have IH:=Hh ih;clear ih
  by_cases h0:n = 0
  ·subst h0
   have hnil:=List.eq_nil_of_length_eq_zero hn;subst hnil;clear hns hf
   go_enter Tryz.func106,Tryz.ntmps106
   go_wp2;go_ret3;exact FstP.no (rf_nil _) (Grow.refl _)
  obtain ⟨D,hD⟩:∃ D,d + 1 = D:=⟨_,rfl⟩;rw [hD];have hD1:¬ ((D:Nat):Int) < 1:=by omega
  have hDD:IntKind.i64.wrap (((D:Nat):Int) - 1) = ((d:Nat):Int):=by rw [IntKind.wrap_i64];omega
  have hd15:d ≤ 16:=by omega
  have hb:(((n:Nat):Int) == 0) = false:=by simp;omega
  have hpos:(0:Int) < ((n:Nat):Int):=by omega
  cases ns with
  | nil => exact absurd hn.symm h0
  | cons nd l =>
   have HL:Hid (l.length + 1 = n):=Hh (by rw [← hn,List.length_cons])
   have HFN:=Hh (hf nd (by simp))
   have HF:=Hh hf;obtain ⟨b,off,rfl,hbk,hat⟩:=hns (by rw [hn];omega)
   obtain ⟨A1,c1,A2,c2,A3,c3,p0,p1,p2,p3,hnd⟩:=hat 0 (by rw [hn];omega)
   have hg0:(nd :: l).getD 0 nd0 = nd:=rfl;rw [hg0] at p0 p1 p2 p3 hnd;rw [Nat.zero_mul,Nat.add_zero] at p0 p1 p2 p3;have HNS:=Hh hns;have HBK:=Hh hbk;have P0:=Hh p0;have HC:=Hh (rnode_any nd A1 A2 A3 c1 c2 c3 w HFN.out hnd);have HDE:=Hh hD;have HBAD:=Hh (fun h => rf_bad (d:=d) (n:=nd) (l:=l) h);have HLEAF:=Hh (fun h1 h2 => rf_leaf (d:=d) (n:=nd) (l:=l) h1 h2);have HNEST:=Hh (fun t h1 h2 => rf_nest (d:=d) (n:=nd) (l:=l) (t:=t) h1 h2);have HNO:=Hh (fun j t h1 h2 => rf_no (d:=d) (j:=j) (n:=nd) (l:=l) (t:=t) h1 h2);rw [hD] at HBAD HLEAF HNEST HNO;have HTOP:Hid (top nd st0 = ⟨1,cnt nd.shp,1,nd.shp.length⟩):=Hh (by simp [top,st0])
   have hC1:=cnt_le1 nd.shp;have HIT:Hid (okB nd = true → itm nd = cnt nd.shp):=Hh (fun h => by unfold itm;rw [if_pos h])
   clear hns hat hnd hbk hf hn hD hg0;obtain ⟨ρ,hρ⟩:∃ ρ,rf D (nd :: l) = ρ:=⟨_,rfl⟩;rw [hρ] at HBAD HLEAF HNEST HNO ⊢;obtain ⟨C,hC⟩:∃ C,cnt nd.shp = C:=⟨_,rfl⟩;rw [hC] at HNEST HNO HTOP HIT hC1;have HCQ:=Hh hC;clear hρ hC
   cases hok:okB nd with
   | false =>
    have HB:=Hh (HBAD.out hok);rw [hok] at HC;generalize itm nd = ι at HC;clear hok HLEAF HNEST HNO HBAD;generalize nd.shp.length = l1 at *;generalize nd.ints.length = l2 at *;generalize nd.decs.length = l3 at *;generalize nd.kind = k at *
    go_enter Tryz.func106,Tryz.ntmps106
    go_wp2_with fail;refine (HC.out).mono ?_;rintro e w2 ⟨rfl,hg2⟩;go_wp2;go_ret3;exact FstP.no HB.out hg2
   | true =>
    have HLF:=Hh (HLEAF.out hok);have HNS5:=Hh (fun t => HNEST.out t hok);have HNO5:=Hh (fun j t => HNO.out j t hok);rw [hok,HIT.out hok] at HC;clear hok HLEAF HNEST HNO HBAD HIT
    by_cases hk:nd.kind = 5
    ·have hkb:(nd.kind != 5) = false:=by rw [hk];rfl
     have HNS6:=Hh (fun t => HNS5.out t hk);have HNO6:=Hh (fun j t => HNO5.out j t hk);clear HNS5 HNO5 HLF hk;generalize nd.shp.length = l1 at p1 HC;generalize nd.ints.length = l2 at p2 HC;generalize nd.decs.length = l3 at p3 HC;generalize hkk:nd.kind = k at *;clear hkk
     go_enter Tryz.func106,Tryz.ntmps106
     go_wp2_with fail;refine (HC.out).mono ?_;rintro e w2 ⟨rfl,hg2⟩;have HG2:=Hh hg2;have q0:=(hg2.cell (p:=⟨b,off,none⟩) HBK.out).trans P0.out;clear hg2 HC p0 p1 p2 p3;go_wp2;clear q0
     go_loopg [9,10,11,12] C (fun g s9 s10 s11 s12 wr => ∃ (j:Nat) (t:St) (u v:Nat),j ≤ C ∧ g = C - j ∧ s12 = .int .i64 j ∧ s9 = .int .i64 u ∧ s10 = .int .i64 v ∧ s11 = .int .i64 (t.d:Nat) ∧ Hid (u = t.n + 1) ∧ Hid (v = t.i + C) ∧ u ≤ n ∧ v ≤ 1048576 ∧ t.d ≤ 16 ∧
      Hid (parK (par d) j l = some t) ∧ Hid (Grow w wr))
     case atStart => exact ⟨0,st0,1,C,Nat.zero_le _,rfl,rfl,rfl,rfl,rfl,Hh rfl,Hh (by simp [st0]),by omega,hC1,Nat.zero_le _,Hh (parK_zero _ _),HG2⟩
     case round =>
      obtain ⟨j,t,u,v,hj,rfl,rfl,rfl,rfl,rfl,HU,HV,hun,hv2,htd,HP,HG⟩:=hrel;obtain ⟨tn,ti,td,tr⟩:=t;dsimp only at HU HV htd
      by_cases hlt:j < C
      ·have hlti:((j:Nat):Int) < ((C:Nat):Int):=by omega
       have hcut:=run_cut_lo (some ⟨b,off,none⟩) n c u hun;obtain ⟨AU,hAU⟩:∃ AU,cutA (some ⟨b,off,none⟩) c u = AU:=⟨_,rfl⟩;rw [hAU] at hcut
       have HNU:Hid (Nodes wr wr.heap.size AU (l.drop tn)):=Hh (by
        have h1:=(HNS.out.grow HG.out).cut c u (by rw [List.length_cons,HL.out];exact hnc)
        rw [hAU,HU.out] at h1
        exact h1)
       have HLU:Hid ((l.drop tn).length = n - u):=Hh (by rw [List.length_drop];have:=HL.out;have:=HU.out;omega)
       have HFU:Hid (Fits (l.drop tn)):=Hh (fun m hm => HF.out m (List.mem_cons_of_mem _ (List.mem_of_mem_drop hm)));have HR:=Hh (IH.out AU (n - u) (c - u) (l.drop tn) wr hd15 HLU.out (by omega) (by omega) HFU.out HNU.out)
       have HNN:=Hh (HNO6.out j ⟨tn,ti,td,tr⟩ hlt HP.out);have HPS:=Hh (fun s h => parK_mk (f:=par d) (j:=j) (l:=l) (a:=⟨tn,ti,td,tr⟩) (b:=s) HP.out h);clear hAU HNU HLU HFU HP
       cases hrf:rf d (l.drop tn) with
       | none =>
        have HB:=Hh (HNN.out (.inl hrf));rw [hrf] at HR;clear hrf HNN HPS;go_wp2_with fail;refine (HR.out).mono ?_;rintro e w3 ⟨rfl,hg3⟩;have HG3:=Hh (HG.out.trans hg3);clear hg3 HR;have hz:st0.n = 0:=rfl;simp only [Option.getD_none,hz];go_wp2;go_ret3;exact FstP.no HB.out HG3.out
       | some s =>
        obtain ⟨hp,hsi⟩:=rf_some hrf;obtain ⟨hn1,hn2,hd1,hd2⟩:=par_len hp;rw [List.length_drop] at hn2;have hln:=HL.out;rw [hrf] at HR;have HP2:=Hh (HPS.out s hp);obtain ⟨sn,si,sd,sr⟩:=s;dsimp only at hsi hn1 hn2 hd1 hd2;have hne:(((sn:Nat):Int) == 0) = false:=by simp;omega
        have hwi:IntKind.i64.wrap (((v:Nat):Int) + ((si:Nat):Int)) = ((v:Nat):Int) + ((si:Nat):Int):=by rw [IntKind.wrap_i64];omega
        by_cases hgt:1048576 < v + si
        ·have hgti:(1048576:Int) < ((v:Nat):Int) + ((si:Nat):Int):=by omega
         have HB:=Hh (HNN.out (.inr ⟨_,hrf,by have:=HV.out;show 1048576 < ti + C + si;omega⟩))
         clear hrf HNN HPS hp;go_wp2_with fail;refine (HR.out).mono ?_;rintro e w3 ⟨rfl,hg3⟩;have HG3:=Hh (HG.out.trans hg3);clear hg3 HR;simp only [Option.getD_some];go_wp2;go_ret3;exact FstP.no HB.out HG3.out
        ·have hgti:¬ (1048576:Int) < ((v:Nat):Int) + ((si:Nat):Int):=by omega
         have hwu:IntKind.i64.wrap (((u:Nat):Int) + ((sn:Nat):Int)) = ((u:Nat):Int) + ((sn:Nat):Int):=by rw [IntKind.wrap_i64];omega
         have hmx:=max_is td sd;have hmx':=max_is' td sd;obtain ⟨M,hM⟩:∃ M,max td sd = M:=⟨_,rfl⟩;rw [hM] at hmx hmx';have HM:=Hh hM;have hM16:M ≤ 16:=by omega
         clear hrf HNN HPS hp hM;go_wp2_with fail;refine (HR.out).mono ?_;rintro e w3 ⟨rfl,hg3⟩;have HG3:=Hh (HG.out.trans hg3);clear hg3 HR;simp only [Option.getD_some];go_wp2;go_roundg (C - (j + 1))
         case rel =>
          refine ⟨j + 1,⟨tn + sn,ti + si,M,max tr sr⟩,u + sn,v + si,by omega,rfl,by go_num,by go_num,by go_num,by go_num,Hh (by have:=HU.out;show u + sn = tn + sn + 1;omega),Hh (by have:=HV.out;show v + si = ti + si + C;omega),by have:=HU.out;omega,by omega,hM16,Hh ?_,HG3⟩
          rw [HP2.out];simp only [St.plus,HM.out]
         case measure => omega
      ·obtain rfl:C = j:=by omega
       have hcc:¬ ((C:Nat):Int) < ((C:Nat):Int):=by omega
       have HE:Hid (ρ = some ⟨u,v,td + 1,max tr nd.shp.length⟩):=Hh (by
        rw [HNS6.out ⟨tn,ti,td,tr⟩ HP.out (by have:=HV.out;show ti + C ≤ 1048576;omega),HU.out,HV.out]
        simp only [top,HCQ.out])
       have hwd:IntKind.i64.wrap (((td:Nat):Int) + 1) = ((td + 1:Nat):Int):=by rw [IntKind.wrap_i64];omega
       go_wp2;go_ret3;exact FstP.yes HE.out HG.out
    ·have hkb:(nd.kind != 5) = true:=by simpa using hk
     have HLF2:=Hh (HLF.out hk);have HE:Hid (ρ = some ⟨1,C,1,nd.shp.length⟩):=Hh (by rw [HLF2.out,HTOP.out])
     clear HNS5 HNO5 HLF HLF2 hk HTOP;generalize nd.shp.length = l1 at *;generalize nd.ints.length = l2 at *;generalize nd.decs.length = l3 at *;generalize nd.kind = k at *
     go_enter Tryz.func106,Tryz.ntmps106
     go_wp2_with fail;refine (HC.out).mono ?_;rintro e w2 ⟨rfl,hg2⟩;have q0:=(hg2.cell (p:=⟨b,off,none⟩) HBK.out).trans P0.out;go_wp2;go_ret3;exact FstP.yes HE.out hg2
open Go.RowKit Go.Lib
theorem first16_any (A:Option Addr) (n c:Nat) (ns:List Nd) (w:World) (hn:ns.length = n) (hnb:n ≤ 1100000) (hnc:n ≤ c) (hf:Fits ns) (hns:Nodes w w.heap.size A ns) :
  Calls Tryz.prog 106 #[.slice A n c,.int .i64 16] w (fun e w' => e = .returned (.tuple #[.int .i64 ((fs ns).n:Nat),.int .i64 ((fs ns).i:Nat),.int .i64 ((fs ns).d:Nat)]) ∧ Grow w w') :=
 rfirst_any 16 A n c ns w (Nat.le_refl _) hn hnb hnc hf hns
theorem rtake_any (A:Option Addr) (n c:Nat) (ns:List Nd) (w:World) (hn:ns.length = n) (hnb:n ≤ 1100000) (hnc:n ≤ c) (hf:Fits ns) (hns:Nodes w w.heap.size A ns) :
  Calls Tryz.prog 138 #[.slice A n c] w (Ret (.int .i64 (takeA ns:Nat)) w):=by
 have HC:=Hh (first16_any A n c ns w hn hnb hnc hf hns);have HT:=Hh (show takeA ns = (fs ns).n from rfl);clear hn hf hns;generalize fs ns = s at *;generalize takeA ns = z at *;obtain ⟨p,q,u,v⟩:=s;dsimp only at *
 go_enter Tryz.func138,Tryz.ntmps138
 go_wp2_with fail;refine (HC.out).mono ?_;rintro x w2 ⟨rfl,hg⟩;go_wp2;go_ret;exact ⟨by rw [HT.out];rfl,hg⟩
theorem rrightA_any (A:Option Addr) (n c:Nat) (ns:List Nd) (w:World) (hn:ns.length = n) (hnb:n ≤ 1100000) (hnc:n ≤ c) (hf:Fits ns) (hns:Nodes w w.heap.size A ns) :
  Calls Tryz.prog 104 #[.slice A n c] w (Ret (.bool (rightA ns)) w):=by
 have HC:=Hh (rtake_any A n c ns w hn hnb hnc hf hns);have HR:=Hh (right_iff_take ns);have hz:=take_le ns;rw [hn] at HR hz;clear hn hf hns;generalize rightA ns = β at *;generalize takeA ns = z at *
 by_cases h0:n = 0
 ·subst h0
  have HB:Hid (β = false):=Hh (by rw [HR.out,Bool.and_eq_false_iff];left;exact decide_eq_false (by omega))
  go_enter Tryz.func104,Tryz.ntmps104
  go_wp2;go_ret;exact ⟨by rw [HB.out];rfl,Grow.refl _⟩
 ·have hp:(0:Int) < ((n:Nat):Int):=by omega
  by_cases hzn:z = n
  ·have HB:Hid (β = true):=Hh (by rw [HR.out];simp [hzn];omega)
   subst hzn;have hb:(((z:Nat):Int) == ((z:Nat):Int)) = true:=by simp
   go_enter Tryz.func104,Tryz.ntmps104
   go_wp2_with fail;refine (HC.out).mono ?_;rintro x w2 ⟨rfl,hg⟩;go_wp2;go_ret;exact ⟨by rw [HB.out];rfl,hg⟩
  ·have HB:Hid (β = false):=Hh (by rw [HR.out];simp [hzn])
   have hb:(((z:Nat):Int) == ((n:Nat):Int)) = false:=by simp;omega
   go_enter Tryz.func104,Tryz.ntmps104
   go_wp2_with fail;refine (HC.out).mono ?_;rintro x w2 ⟨rfl,hg⟩;go_wp2;go_ret;exact ⟨by rw [HB.out];rfl,hg⟩
open Go.RowKit Go.Lib
theorem run_cut_mid (A:Option Addr) (n c k h:Nat) (hk:k ≤ h) (hh:h ≤ c) (W:World) :
  (Instr.slice 22 (.slice A n c) (some (.int .i64 ((k:Nat):Int))) (some (.int .i64 ((h:Nat):Int))) none).run Tryz.prog W = .ok (.slice (cutA A c k) (h - k) (c - k)) W:=by
 obtain ⟨i,hi,_,hsz,_⟩:=info_of info_node;have h0:(0:Int) ≤ ((k:Nat):Int):=by omega
 have h1:((k:Nat):Int) ≤ ((h:Nat):Int):=by omega
 have h2:(0:Int) ≤ ((h:Nat):Int):=by omega
 have h3:((h:Nat):Int) ≤ ((c:Nat):Int):=by omega
 simp [Instr.slice,run_underlying Tryz.underlying22,Instr.sliceBounds,Instr.sliceBound,asIntOf,sizeOf,typeInfo,hi,hsz,h0,h1,h2,h3,hk,hh,cutA]
theorem rkids_any (A:Option Addr) (n c:Nat) (ns:List Nd) (w:World) (hn:ns.length = n) (hnb:n ≤ 1100000) (hnc:n ≤ c) (hf:Fits ns) (hns:Nodes w w.heap.size A ns) :
  Calls Tryz.prog 63 #[.slice A n c] w (KidsP (kidsA ns) w):=by
 have HR:=Hh (rrightA_any A n c ns w hn hnb hnc hf hns);have HN:=Hh hn;have HF:=Hh hf;have HNS:=Hh hns;clear hn hf hns
 cases hr:rightA ns with
 | false =>
  have HK:Hid (kidsA ns = []):=Hh (by unfold kidsA;rw [hr];rfl)
  rw [hr] at HR;clear hr
  go_enter Tryz.func63,Tryz.ntmps63
  go_wp2_with fail;refine (HR.out).mono ?_;rintro e w1 ⟨rfl,hg1⟩;go_wp2;go_ret;exact ⟨none,0,by rw [HK.out];rfl,fun _ => rfl,by rw [HK.out];exact Nat.le_refl _,by rw [HK.out];exact KidsAt.none_,hg1⟩
 | true =>
  obtain ⟨hne,hky⟩:=right_kidsy hr;have hpos:1 ≤ n:=by rw [← HN.out];exact List.length_pos_iff.2 hne
  have hp0:(0:Int) < ((n:Nat):Int):=by omega
  have HK:Hid (kidsA ns = kd (ns.drop 1)):=Hh (by unfold kidsA;rw [hr];rfl)
  have HPL:=Hh (fun h => (kids_plain hr h).2.1);rw [hr] at HR;have HKY:=Hh hky;clear hr hne hky;obtain ⟨b,off,rfl,hb,hat⟩:=HNS.out (by rw [HN.out];omega)
  obtain ⟨A1,c1,A2,c2,A3,c3,p0,p1,p2,p3,hnd⟩:=hat 0 (by rw [HN.out];omega)
  rw [Nat.zero_mul,Nat.add_zero] at p0;have HBK:=Hh hb;have P0:=Hh p0;clear hat hnd p0 p1 p2 p3 hb;generalize hkk:(ns.getD 0 nd0).kind = k at *;clear hkk
  go_enter Tryz.func63,Tryz.ntmps63
  go_wp2_with fail;refine (HR.out).mono ?_;rintro e w1 ⟨rfl,hg1⟩;have HG1:=Hh hg1;have p0:=(hg1.cell (p:=⟨b,off,none⟩) HBK.out).trans P0.out;clear hg1 HR
  by_cases hk5:k = 5
  ·have hkb:(k != 5) = false:=by rw [hk5];rfl
   clear HPL hk5;go_wp2;clear p0
   go_loopg [3,4] (n - 1) (fun gk s3 s4 wr => ∃ (v:Value) (dn:List (List Nd)) (at_:Nat),v = s3 ∧ s4 = .int .i64 at_ ∧ gk = n - at_ ∧ at_ ≤ n ∧ Hid (dn.length + (n - at_) ≤ n) ∧ Hid (Kidsy (ns.drop at_)) ∧
    Hid (kd (ns.drop 1) = dn ++ kd (ns.drop at_)) ∧ Hid (OwnK w.heap.size v dn wr) ∧ Hid (Grow w wr))
   case atStart => exact ⟨_,[],1,rfl,rfl,rfl,hpos,Hh (by simp),HKY,Hh rfl,Hh (ownK_nil _ _),HG1⟩
   case round =>
    obtain ⟨v,dn,a,rfl,rfl,rfl,han,HDN,HKL,HKE,HO,HGR⟩:=hrel
    by_cases hlt:a < n
    ·have hai:((a:Nat):Int) < ((n:Nat):Int):=by omega
     have HLL:Hid ((ns.drop a).length = n - a):=Hh (by rw [List.length_drop,HN.out])
     have hln:ns.drop a ≠ []:=fun e => by have:=HLL.out;rw [e] at this;simp at this;omega
     obtain ⟨s,hp15,hfs,hta,hs1,hsl,hky⟩:=HKL.out.step hln;rw [HLL.out] at hsl;have hcl:=run_cut_lo (some ⟨b,off,none⟩) n c a han;obtain ⟨AU,hAU⟩:∃ AU,cutA (some ⟨b,off,none⟩) c a = AU:=⟨_,rfl⟩;rw [hAU] at hcl
     have HNU:Hid (Nodes wr wr.heap.size AU (ns.drop a)):=Hh (by
      have h1:=(HNS.out.grow HGR.out).cut c a (by rw [HN.out];exact hnc)
      rw [hAU] at h1
      exact h1)
     have HFU:=Hh (HF.out.drop a);have HT:=Hh (first16_any AU (n - a) (c - a) (ns.drop a) wr HLL.out (by omega) (by omega) HFU.out HNU.out)
     rw [fs_some hfs] at HT;have HKS:=Hh (kd_step hln (by rw [hta];omega))
     rw [hta,List.drop_drop] at HKS;rw [List.drop_drop] at hky;have HKD:=Hh hky;obtain ⟨sn,si,sd,sr⟩:=s;dsimp only at HT HKS HKD hs1 hsl;have HTL:Hid (((ns.drop a).take sn).length = sn):=Hh (by rw [List.length_take,HLL.out];omega)
     have hwa:IntKind.i64.wrap (((a:Nat):Int) + ((sn:Nat):Int)) = ((a + sn:Nat):Int):=by rw [IntKind.wrap_i64];omega
     have hcm0:=run_cut_mid (some ⟨b,off,none⟩) n c a (a + sn) (by omega) (by omega)
     rw [hAU,Nat.add_sub_cancel_left] at hcm0;have hcm:∀ W:World,(Instr.slice 22 (.slice (some ⟨b,off,none⟩) n c) (some (.int .i64 ((a:Nat):Int))) (some (.int .i64 (((a:Nat):Int) + ((sn:Nat):Int)))) none).run Tryz.prog W = .ok (.slice AU sn (c - a)) W:=fun W => by
      have:=hcm0 W
      rwa [Int.natCast_add] at this
     have HC:=Hh (fun W h => rcopy_any AU sn (c - a) ((ns.drop a).take sn) W HTL.out (by omega) (HFU.out.take sn) h)
     clear hAU hky hp15 hfs hta hln hcm0;go_wp2_with fail;refine (HT.out).mono ?_;rintro e w2 ⟨rfl,hg2⟩;have HG2:=Hh (HGR.out.trans hg2);have HO2:=Hh (HO.out.grow hg2);have HNU2:=Hh (HNU.out.grow hg2);clear hg2 HT HO HNU;go_wp2_with fail;refine (HC.out _ (HNU2.out.take sn)).mono ?_;rintro e w3 ⟨A',c',he,hc',hcp,hg3⟩;rw [HTL.out] at he hc';subst he;have HG3:=Hh (HG2.out.trans hg3);have HO3:=Hh (HO2.out.grow hg3);have HCP:=Hh hcp;have HCC:=Hh hc';have HZ3:=Hh (HG2.out.size);have HOL:=Hh (show ∀ k,v.ownBlock = some k → k < w2.heap.size by obtain ⟨vals,ho,_⟩:=HO2.out;exact fun k hk => (ho.lt k hk).2)
     clear hg3 hcp HC HO2 hc';have HG4:=Hh (grow_new w3 (.cells #[.slice A' sn c'] 22));have HO4:=Hh (HO3.out.grow HG4.out);have HCELL:Hid ((w3.alloc (.cells #[.slice A' sn c'] 22)).cell? ⟨w3.heap.size,0,none⟩ = some (.slice A' ((ns.drop a).take sn).length c')):=Hh (by rw [HTL.out,World.cell?_alloc_new];rfl)
     have HKID:=Hh (HCP.out.keep (w':=w3.alloc (.cells #[.slice A' sn c'] 22)) (T':=fun b => w.heap.size ≤ b ∧ v.ownBlock ≠ some b ∧ b < (w3.alloc (.cells #[.slice A' sn c'] 22)).heap.size) (fun b hb => ⟨⟨Nat.le_trans HZ3.out hb.1,fun e => by have:=HOL.out b e;omega,Nat.lt_of_lt_of_le hb.2 HG4.out.size⟩,HG4.out.block b hb.2⟩))
     have HB4:=Hh (Nat.le_trans HG3.out.size HG4.out.size);have hdn:dn.length ≤ 1100000:=by have:=HDN.out;omega
     have HGA:=Hh (HG3.out.trans HG4.out);go_wp2_with (at_builtin;refine wpList_append_kid rfl _ _ rfl w.heap.size v dn ((ns.drop a).take sn) w3.heap.size A' c' rfl HO4.out rfl HCELL.out (by rw [HTL.out];exact HCC.out) HKID.out hdn HB4.out ?_;intro v' w5 HO5 HB5)
     go_roundg (n - (a + sn))
     case rel =>
      exact ⟨v',dn ++ [(ns.drop a).take sn],a + sn,rfl,by go_num,rfl,by omega,Hh (by have:=HDN.out;rw [List.length_append];simp only [List.length_singleton];omega),HKD,Hh (by rw [HKE.out,HKS.out];simp),HO5,Hh (Below.trans HGA.out HB5.out)⟩
     case measure => omega
    ·obtain rfl:n = a:=by omega
     have hnn:¬ ((n:Nat):Int) < ((n:Nat):Int):=by omega
     have HE:Hid (kd (ns.drop 1) = dn):=Hh (by rw [HKE.out,List.drop_of_length_le (by rw [HN.out];exact Nat.le_refl _),kd_nil,List.append_nil])
     go_wp2;go_ret;obtain ⟨A',c',hv,h1,h2,h3⟩:=HO.out.kids;exact ⟨A',c',by rw [HK.out,HE.out,← hv];rfl,h1,by rw [HK.out,HE.out];exact h2,by rw [HK.out,HE.out];exact h3,HGR.out⟩
  ·have hkb:(k != 5) = true:=by simpa using hk5
   have HE:=Hh (HPL.out hk5);clear HPL hk5;go_wp2;go_ret;exact ⟨none,0,by rw [HE.out];rfl,fun _ => rfl,by rw [HE.out];exact Nat.le_refl _,by rw [HE.out];exact KidsAt.none_,HG1.out⟩
open Go.RowKit Go.Lib
def valsR (x:Nd):List (Int × Int):=x.decs ++ x.ints.map ofD
theorem ownD_lit00 {B:Nat} (w:World) (hB:B ≤ w.heap.size):OwnD B (.slice (some ⟨w.heap.size,0,none⟩) 0 0) [] (w.alloc (.cells #[] 41)) :=
 ⟨rfl,.inr ⟨w.heap.size,0,#[],rfl,hB,heap_alloc_new w _,Nat.le_refl _,Nat.zero_le _,rfl,rfl⟩⟩
theorem rvalues_any (x:Nd) (A1 A2 A3:Option Addr) (c1 c2 c3:Nat) (w:World) (hf:Fit x) (hv:∀ y ∈ x.ints,In y) (hnd:IsNd w w.heap.size A1 A2 A3 x) :
  Calls Tryz.prog 139 #[.agg #[.int .i64 x.kind,.slice A1 x.shp.length c1,.slice A2 x.ints.length c2,.slice A3 x.decs.length c3]] w (NewDP (valsR x) w):=by
 have HIN:=Hh hv;have HVX:Hid (valsR x = x.decs ++ x.ints.map ofD):=Hh rfl;have hl2:=hf.2.2.1;have hl3:=hf.2.2.2.1;have HNX:=Hh hnd.2.1;have HDX:=Hh hnd.2.2;have HB0:=Hh (boxN_new w x.kind A1 x.shp.length c1 A2 x.ints.length c2 A3 x.decs.length c3);have HG0:=Hh (grow_new w (.cells #[.int .i64 x.kind,.slice A1 x.shp.length c1,.slice A2 x.ints.length c2,.slice A3 x.decs.length c3] 34));clear hf hnd hv;obtain ⟨kk,sh,xs,ds⟩:=x;dsimp only at *;obtain ⟨li,hli⟩:∃ li,xs.length = li:=⟨_,rfl⟩;have HLI:=Hh hli;obtain ⟨ld,hld⟩:∃ ld,ds.length = ld:=⟨_,rfl⟩;have HLD:=Hh hld;rw [hli] at HB0 HG0 hl2 ⊢;rw [hld] at HB0 HG0 hl3 ⊢;clear hli hld;generalize sh.length = l1 at *;obtain ⟨B,hB⟩:∃ B,w.heap.size = B:=⟨_,rfl⟩;have HBE:=Hh hB;rw [hB] at HB0;clear hB
 go_enter Tryz.func139,Tryz.ntmps139
 go_upto_region 1 with fail
 obtain ⟨w1,hw1⟩:∃ w1,w1 = w.alloc (.cells #[.int .i64 kk,.slice A1 l1 c1,.slice A2 li c2,.slice A3 ld c3] 34):=⟨_,rfl⟩;rw [← hw1] at HB0 HG0 ⊢;clear hw1;have b3:=HB0.out.at3;rw [← HBE.out] at b3;have hg2:=grow_new w1 (.cells #[] 41);have HE:=Hh (ownD_lit00 (B:=B) w1 (by rw [← HBE.out];exact HG0.out.size))
 have HDS:=Hh ((HDX.out.grow HG0.out).grow hg2);have HG2:=Hh (HG0.out.trans hg2);have HZ2:Hid (B ≤ (w1.alloc (.cells #[] 41)).heap.size):=Hh (by rw [← HBE.out];exact HG2.out.size)
 have HB2:=Hh (HB0.out.grow hg2);have b3':=HB2.out.at3;rw [← HBE.out] at b3';have HBL:=Hh HB0.out.lt;clear hg2;go_wp2_with (at_builtin;refine wpList_more_decs rfl _ _ rfl B (.slice (some ⟨w1.heap.size,0,none⟩) 0 0) [] A3 ld c3 ds rfl HE.out rfl HLD.out HDS.out (by simp;omega) HZ2.out ?_;intro v2 w2 HO2 HBe2 HA2)
 have HO3:Hid (OwnD B v2 (ds ++ (xs.take 0).map ofD) w2):=Hh (by simpa using HO2.out)
 have HG3:Hid (Below B w w2):=Hh (Below.trans (by have h:=HG2.out;unfold Grow at h;rw [HBE.out] at h;exact h) HBe2.out)
 have HB3:Hid (BoxN w2 B kk A1 l1 c1 A2 li c2 A3 ld c3):=Hh ((HA2.out.1 B HB2.out.lt (fun h => by have h':w1.heap.size = B:=Option.some.inj h;have:=HBL.out;omega)).trans HB2.out)
 have HU3:Hid (∀ q,v2.ownBlock = some q → q ≠ B):=Hh (fun q hq e => by
  rcases HA2.out.2 with h | h
  ·rw [h] at hq;have h':w1.heap.size = q:=Option.some.inj hq;have:=HBL.out;omega
  ·rw [h] at hq;cases hq;have:=HB2.out.lt;omega)
 clear HO2 HBe2 HA2 b3 b3' HE HDS HG2 HZ2 HB2 HBL HB0 HG0
 go_loopg [3,4] li (fun g s3 s4 wr => ∃ (j:Nat) (u:Value),j ≤ li ∧ g = li - j ∧ s4 = .int .i64 j ∧ u = s3 ∧ Hid (OwnD B u (ds ++ (xs.take j).map ofD) wr) ∧ Hid (Below B w wr) ∧
  Hid (BoxN wr B kk A1 l1 c1 A2 li c2 A3 ld c3) ∧ Hid (∀ q,u.ownBlock = some q → q ≠ B))
 case atStart => exact ⟨0,v2,Nat.zero_le _,rfl,rfl,rfl,HO3,HG3,HB3,HU3⟩
 case round =>
  obtain ⟨j,u,hj,rfl,rfl,rfl,HOJ,HGJ,HBJ,HUJ⟩:=hrel;have HZJ:Hid (B ≤ wr.heap.size):=Hh (by rw [← HBE.out];exact HGJ.out.size)
  have b2:=HBJ.out.at2;rw [← HBE.out] at b2
  by_cases hjl:j < li
  ·have hjli:((j:Nat):Int) < ((li:Nat):Int):=by omega
   have hjx:j < xs.length:=by rw [HLI.out];exact hjl
   have hNX:=HNX.out;rw [HBE.out] at hNX;obtain ⟨b',off',rfl,hb',hcl⟩:=(hNX.below HGJ.out) (by omega)
   have hc:=hcl j hjx;have HMS:=Hh (map_step hjx)
   have HIJ:Hid (In (xs.getD j 0)):=Hh (by
    rw [show xs.getD j 0 = xs[j] by simp [List.getD,hjx]]
    exact HIN.out _ (List.getElem_mem hjx))
   have HLJ:Hid ((ds ++ (xs.take j).map ofD).length ≤ 2200000):=Hh (by
    rw [List.length_append,List.length_map,List.length_take,HLD.out,HLI.out]
    omega)
   clear hcl hb' hjx hNX;generalize xs.getD j 0 = y at *;have HC:=Hh (fun W => rof_any y W HIJ.out);have HOFD:Hid (ofD y = (norm y 0).1):=Hh rfl;generalize norm y 0 = ny at *;obtain ⟨⟨q,r⟩,b0⟩:=ny;dsimp only at HC HOFD;go_wp2_with fail;refine (HC.out _).mono ?_;rintro e w3 ⟨rfl,hg3⟩;have HG3:=Hh (hg3.trans (grow_new w3 (.cells #[.int .i64 q,.int .i64 r] 41)));have HO3:=Hh (HOJ.out.grow HG3.out);have HL3:=Hh (decs_lit1 w3 q r);have HB3:=Hh (HBJ.out.grow HG3.out);have HZ3:=Hh (Nat.le_trans HZJ.out HG3.out.size);have HGB3:=Hh (Below.trans HGJ.out (Below.mono HG3.out HZJ.out));clear hg3 HC HOJ HBJ b2;go_wp2_with (at_builtin;refine wpList_more_decs rfl _ _ rfl B u _ (some ⟨w3.heap.size,0,none⟩) 1 1 [(q,r)] rfl HO3.out rfl rfl HL3.out (by have:=HLJ.out;omega) HZ3.out ?_;intro v' w5 HO5 HB5 HA5)
   go_roundg (li - (j + 1))
   case rel =>
    refine ⟨j + 1,v',by omega,rfl,by go_num,rfl,Hh ?_,Hh (Below.trans HGB3.out HB5.out),Hh ?_,Hh ?_⟩
    ·rw [HMS.out,HOFD.out,← List.append_assoc]
     exact HO5.out
    ·exact (HA5.out.1 B HB3.out.lt (fun h => HUJ.out B h rfl)).trans HB3.out
    ·intro q' hq' e'
     rcases HA5.out.2 with h | h
     ·exact HUJ.out q' (h ▸ hq') e'
     ·rw [h] at hq'
      cases hq'
      have:=HB3.out.lt;omega
   case measure => omega
  ·obtain rfl:li = j:=by omega
   have hjj:¬ ((li:Nat):Int) < ((li:Nat):Int):=by omega
   have HXA:=Hh (show xs.take li = xs from List.take_of_length_le (by rw [HLI.out];exact Nat.le_refl _))
   rw [HXA.out] at HOJ;go_wp2;go_ret;obtain ⟨A',c',hv,hc,hN⟩:=HOJ.out.new;exact ⟨A',c',by rw [HVX.out,← hv];rfl,by rw [HVX.out];exact hc,by rw [HVX.out,HBE.out];exact hN,show Below w.heap.size w _ by rw [HBE.out];exact HGJ.out⟩
end Go.Proofs.YteoogioanjkacaaGreatDoor
