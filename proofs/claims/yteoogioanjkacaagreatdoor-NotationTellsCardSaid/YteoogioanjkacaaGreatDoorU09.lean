/-
  Contracts, joined: NoteMath, NoteLaws, NoteFine, NoteProg, TrimsA, TrimsB, TrimsD, TrimsE, TrimsF, Shelf2, TrimsG, Reader. Nothing is claimed here by itself.
-/
import Derived.Test.YteoogioanjkacaaGreatDoorU01
import Derived.Test.YteoogioanjkacaaGreatDoorU03
import Derived.Test.YteoogioanjkacaaGreatDoorU04
import Derived.Test.YteoogioanjkacaaGreatDoorU06
import Derived.Test.YteoogioanjkacaaGreatDoorU07
import Derived.Test.YteoogioanjkacaaGreatDoorU08
import Derived.Shelf.Strings.AsciiSet
import Derived.Lib.OthersKept
import Derived.BigQuiet
import Derived.WalkMore
import Derived.Deep.CutBlock
import Derived.Deep.DeepCutAuto
import Derived.ScopeJumps
import Derived.Shelf.Strings.Builder1
import Derived.Shelf.Strings.Builder2
import Derived.Shelf.Strings.OnBuilder
import Derived.Shelf.Strings.Trim
import Derived.Shelf.Small.Utf8
import Derived.Shelf.Small.Strs
import Derived.Shelf.Small.Wraps
import Derived.Shelf.Strings.BuilderF
import Derived.Shelf.Strings.BuilderK
import Derived.Shelf.Utf8.AppendRunePlain
import Derived.Shelf.Strconv.Atoi
import Derived.Shelf.Strconv.Itoa0
import Derived.Shelf.Strconv.Itoa1
import Derived.Shelf.LaysM
import Derived.Shelf.Strconv.Itoa2
import Derived.Shelf.Strconv.Itoa3
import Derived.Shelf.Strconv.AtoiErrFast
import Derived.Shelf.Strconv.ParseIntEmpty
import Derived.Shelf.Strconv.AtoiFail
import Derived.Shelf.Strconv.Clone
import Derived.Shelf.Strconv.SyntaxError
import Derived.Shelf.LaysC
import Derived.Shelf.Strconv.ToError
import Derived.Shelf.Strconv.Lower
import Derived.Shelf.Strconv.ParseUint10
import Derived.Shelf.Strconv.ParseUint10Empty
import Derived.Shelf.Strconv.ParseUint10Any
import Derived.Shelf.Strconv.ParseInt10
import Derived.Shelf.Strconv.AtoiLong
import Derived.Shelf.Strconv.AtoiInnerAll
import Derived.Shelf.Strconv.RangeError
import Derived.Shelf.Strconv.ToErrorRange
import Derived.Shelf.Strconv.AtoiAll
import Derived.Shelf.Strconv.ErrVarAll
import Derived.Shelf.Strings.Search1
import Derived.Shelf.Strings.Search2
import Derived.Shelf.Strings.Search3
import Derived.Shelf.Strings.Cut
import Derived.Shelf.Strings.Shaped
import Derived.Shelf.Strings.Prefix
import Derived.Shelf.Unicode.Decode
import Derived.Shelf.Strings.Runes
import Derived.Shelf.Bits.Mul64
import Derived.Shelf.Strings.Repeat
import Derived.Shelf.Unicode.DecodeSlow
import Derived.Shelf.Unicode.DecodeAny
import Derived.Shelf.Unicode.DecodeLast
import Derived.Test.YteoogioanjkacaaGreatDoorProg
import Derived.BigRegion
set_option maxRecDepth 100000
set_option maxHeartbeats 12800000
set_option linter.unusedSimpArgs false
set_option linter.unusedVariables false
namespace Go.Proofs.YteoogioanjkacaaGreatDoor
def numsT (n:Nd):List UInt8:=if n.kind = 4 then Num.decsT n.decs else Num.intsT n.ints
def leafT (n:Nd):List UInt8 :=
 if n.kind = 3 then Quo.textQ n.ints
 else if n.shp ≠ [] ∧ n.kind = 2 ∧ n.ints = [] ∧ n.decs = [] then [48] else numsT n
def catN (p:List Nd → Option St) (f:List Nd → List UInt8):Nat → List Nd → List UInt8
 | 0,_ => []
 | j + 1,l => catN p f j l ++ match parK p j l with
  | some t => 40 :: (f (l.drop t.n) ++ [41])
  | none => []
def shpT (s:List Int):List UInt8:=Num.intsT s ++ [226,141,180]
def noteF:Nat → List Nd → List UInt8
 | 0,_ => []
 | _ + 1,[] => []
 | d + 1,n :: l =>
  (if n.shp = [] then (if n.kind = 5 then [226,138,130] else []) else shpT n.shp) ++
  (if n.kind = 5 then catN (par d) (noteF d) (kc n) l else leafT n)
def noteA (l:List Nd):List UInt8:=noteF 16 l
def noteT (l:List Nd):List UInt8:=if rightA l = true ∧ formA l = l then noteA l else []
def kidR (rd:List UInt8 → Option (List Nd × List UInt8)):List UInt8 → Option (List Nd × List UInt8)
 | [] => none
 | b :: r => if b = 40 then (rd r).bind fun p => match p.2 with
   | c :: t => if c = 41 then some (p.1,t) else none
   | [] => none
  else none
def kidsR (rd:List UInt8 → Option (List Nd × List UInt8)):Nat → List UInt8 → Option (List Nd × List UInt8)
 | 0,s => some ([],s)
 | k + 1,s => (kidsR rd k s).bind fun p => (kidR rd p.2).map fun q => (p.1 ++ q.1,q.2)
def itemsR (rd:List UInt8 → Option (List Nd × List UInt8)) (sh:List Int) (s:List UInt8):Option (List Nd × List UInt8) :=
 if rightB sh = true then
  match s with
  | [] => none
  | b :: _ =>
   if b = 39 then (Quo.readQ s).bind fun p => if p.1.length = cnt sh then some ([⟨3,sh,Quo.intsZ p.1,[]⟩],p.2) else none
   else if b = 40 then (kidsR rd (cnt sh) s).map fun p => (⟨5,sh,[],[]⟩ :: p.1,p.2)
   else (Num.readO s).bind fun p => (numO sh (if cnt sh = 0 ∧ p.1.length = 1 then [] else p.1)).map fun m => ([m],p.2)
 else none
def begB (s p:List UInt8):Bool:=p.isPrefixOf s
def readR:Nat → List UInt8 → Option (List Nd × List UInt8)
 | 0,_ => none
 | d + 1,s =>
  if begB s [226,138,130] = true then (kidR (readR d) (s.drop 3)).map fun p => (⟨5,[],[],[]⟩ :: p.1,p.2)
  else if s.head? = some 39 then itemsR (readR d) [] s
  else (Num.readO s).bind fun p =>
   if begB p.2 [226,141,180] = true then (if p.1.all whlB = true then itemsR (readR d) (p.1.map whlV) (p.2.drop 3) else none)
   else itemsR (readR d) [] s
def parseN (s:List UInt8):Option (List Nd):=(readR 16 s).bind fun p => if p.2 = [] ∧ noteT p.1 = s then some p.1 else none
theorem readR_succ (d:Nat) (s:List UInt8):readR (d + 1) s =
  if begB s [226,138,130] = true then (kidR (readR d) (s.drop 3)).map fun p => (⟨5,[],[],[]⟩ :: p.1,p.2)
  else if s.head? = some 39 then itemsR (readR d) [] s
  else (Num.readO s).bind fun p =>
   if begB p.2 [226,141,180] = true then (if p.1.all whlB = true then itemsR (readR d) (p.1.map whlV) (p.2.drop 3) else none)
   else itemsR (readR d) [] s:=rfl
theorem noteF_cons (d:Nat) (n:Nd) (l:List Nd):noteF (d + 1) (n :: l) =
  (if n.shp = [] then (if n.kind = 5 then [226,138,130] else []) else shpT n.shp) ++
  (if n.kind = 5 then catN (par d) (noteF d) (kc n) l else leafT n):=rfl
theorem catN_succ {p:List Nd → Option St} {f:List Nd → List UInt8} {j:Nat} {l:List Nd} {t:St} (h:parK p j l = some t):catN p f (j + 1) l = catN p f j l ++ 40 :: (f (l.drop t.n) ++ [41]):=by
 show catN p f j l ++ _ = _;rw [h]
theorem kidsR_succ (rd:List UInt8 → Option (List Nd × List UInt8)) (k:Nat) (s:List UInt8):kidsR rd (k + 1) s = (kidsR rd k s).bind fun p => (kidR rd p.2).map fun q => (p.1 ++ q.1,q.2):=rfl
theorem kidR_yes {rd:List UInt8 → Option (List Nd × List UInt8)} {s r:List UInt8} {a:List Nd} (h:rd s = some (a,41 :: r)):kidR rd (40 :: s) = some (a,r):=by
 simp [kidR,h]
structure Tid (m:Nd):Prop where
 ok:okB m = true
 least:m.kind ≠ 3 → m.kind ≠ 5 → leastN m.shp (valsN m) = m
 items:m.kind = 5 → 0 < cnt m.shp
 fit:Fit m
 vals:∀ x ∈ m.ints,In x
theorem fold_none {n:Nd} {ks:List Nd} (h:foldO n ks = none):n.kind = 5 ∧ ks ≠ []:=by
 unfold foldO at h
 by_cases h3:n.kind = 3
 ·rw [if_pos h3] at h;cases h
 ·rw [if_neg h3] at h
  by_cases h5:n.kind = 5
  ·refine ⟨h5,fun e => ?_⟩
   subst e;rw [if_pos h5] at h;simp [joinO] at h
  ·rw [if_neg h5] at h;cases h
theorem catF_tid {d:Nat} (hf:∀ l s,par d l = some s → Fine l → ∀ m ∈ formF d l,Tid m) :
  ∀ {c:Nat} {l:List Nd} {t:St},parK (par d) c l = some t → Fine l → ∀ m ∈ catF (par d) (formF d) c l,Tid m
 | 0,l,t,h,_ => fun m hm => by cases hm
 | c + 1,l,t,h,hl => by
  obtain ⟨a,b,ha,hb,rfl⟩:=parK_some h;rw [catF_succ ha];intro m hm
  rcases List.mem_append.1 hm with hm | hm
  ·exact catF_tid hf ha hl m hm
  ·exact hf _ _ hb (hl.drop _) m hm
theorem formF_tid:∀ {d:Nat} {l:List Nd} {s:St},par d l = some s → Fine l → ∀ m ∈ formF d l,Tid m
 | 0,l,s,h,_ => by cases h
 | d + 1,l,s,h,hl => by
  obtain ⟨e,n,l',t,he,rfl,hn,ht,rfl⟩:=par_parts h;obtain rfl:d = e:=by omega
  obtain ⟨hfit,hin,hl'⟩:=hl.cons;have htl:=parK_len (fun l s h => (par_len h).2.1) ht;obtain ⟨u,hu,hul,h1,h2,h3,h4,h5,h6⟩:=catF_good (fun l s h hl => formF_good h hl) ht hl';have hT:=catF_tid (fun l s h hl => formF_tid h hl) ht hl';rw [formF_cons];generalize hks:catF (par d) (formF d) (kc n) l' = ks at *;have hkf:Fine ks:=⟨by have:=hl'.1;omega,h4,h5⟩
  cases hj:foldO n ks with
  | none =>
   obtain ⟨k5,kne⟩:=fold_none hj;have hcl:clos n ks = n :: ks:=by unfold clos;rw [hj]
   rw [hcl];intro m hm
   rcases List.mem_cons.1 hm with rfl | hm
   ·refine ⟨hn,fun _ h => absurd k5 h,fun _ => ?_,hfit,hin⟩
    rcases Nat.eq_zero_or_pos (cnt m.shp) with h0 | h0
    ·exfalso
     have hk:kc m = 0:=by unfold kc;rw [if_pos k5,h0]
     rw [hk,catF_zero] at hks;exact kne hks.symm
    ·exact h0
   ·exact hT m hm
  | some m =>
   obtain ⟨k1,k2,k3,k4,k5,k6⟩:=fold_one hn hfit hin hu hul hkf hj;have hcl:clos n ks = [m]:=by unfold clos;rw [hj]
   rw [hcl];intro x hx;rw [List.mem_singleton.1 hx];refine ⟨k1,fun h3 h5 => ?_,fun h => absurd h k3,k4,k5⟩;unfold foldO at k6;rw [if_neg h3,if_neg h5] at k6;exact Option.some.inj k6
theorem tight_tid {a:List Nd} (hr:rightA a = true) (hf:Fine a) (ht:formA a = a):∀ m ∈ a,Tid m:=by
 obtain ⟨s,hs⟩:=right_some hr;obtain ⟨h1,_,_⟩:=whl_some hs;have:=formF_tid h1 hf;show ∀ m ∈ a,Tid m;rw [← ht];exact this
def Ends (r:List UInt8):Prop:=r = [] ∨ ∃ t,r = 41 :: t
theorem Ends.npc {r:List UInt8} (h:Ends r):Num.npc r = 0:=by
 rcases h with rfl | ⟨t,rfl⟩
 ·rfl
 ·exact Num.npc_not (by decide) (by decide) t
theorem Ends.next {r:List UInt8} (h:Ends r):Num.nextD r = none:=by
 rcases h with rfl | ⟨t,rfl⟩
 ·rfl
 ·exact Num.nextD_other (by simp)
theorem Ends.quote {r:List UInt8} (h:Ends r):r.head? ≠ some 39:=by
 rcases h with rfl | ⟨t,rfl⟩ <;> simp
theorem Ends.beg {r:List UInt8} (h:Ends r):begB r [226,141,180] = false:=by
 rcases h with rfl | ⟨t,rfl⟩
 ·rfl
 ·simp [begB,List.isPrefixOf]
theorem rho_npc (r:List UInt8):Num.npc (226 :: 141 :: 180 :: r) = 0:=Num.npc_not (by decide) (by decide) _
theorem rho_next (r:List UInt8):Num.nextD (226 :: 141 :: 180 :: r) = none:=Num.nextD_other (by simp)
theorem rho_beg (r:List UInt8):begB (226 :: 141 :: 180 :: r) [226,141,180] = true:=by simp [begB,List.isPrefixOf]
theorem num_head (n:Int):∃ b r,Num.num n = b :: r ∧ b ≠ 39 ∧ b ≠ 40 ∧ b ≠ 226:=by
 by_cases h:n < 0
 ·exact ⟨194,_,Num.num_neg h,by decide,by decide,by decide⟩
 ·obtain ⟨c,r,e,h1,h2⟩:=Num.dd_cons n.natAbs
  refine ⟨c,r,by rw [Num.num_pos h,e],?_,?_,?_⟩ <;> (intro e;subst e;simp at h1 h2)
def Begs (l:List UInt8):Prop:=∃ b r,l = b :: r ∧ b ≠ 39 ∧ b ≠ 40 ∧ b ≠ 226
theorem Begs.app {l:List UInt8} (h:Begs l) (x:List UInt8):Begs (l ++ x):=by
 obtain ⟨b,r,rfl,h⟩:=h;exact ⟨b,r ++ x,rfl,h⟩
theorem join_head {x:List UInt8} (h:Begs x) (xs:List (List UInt8)):Begs (Go.Lib.join (x :: xs) [32]):=by
 cases xs with
 | nil => rw [Go.Lib.join_one];exact h
 | cons y ys =>
  have e:=Num.join_app (a:=[x]) (b:=y :: ys) (by simp) (by simp)
  rw [List.singleton_append,Go.Lib.join_one] at e;rw [e];exact h.app _
theorem ints_begs {xs:List Int} (h:xs ≠ []):Begs (Num.intsT xs):=by
 cases xs with
 | nil => exact absurd rfl h
 | cons x xs => exact join_head (num_head x) _
theorem text_begs {m e:Int} (h:rightD m e = true):Begs (Num.text m e):=by
 by_cases he:e = 0
 ·subst he;rw [Num.text_plain h];exact num_head m
 ·rw [Num.text_exp h he];exact Begs.app (num_head m) _
theorem decs_begs {ds:List (Int × Int)} (h:ds ≠ []) (hr:Num.decsR ds = true):Begs (Num.decsT ds):=by
 unfold Num.decsT;rw [if_pos hr]
 cases ds with
 | nil => exact absurd rfl h
 | cons d ds =>
  refine join_head (text_begs ?_) _;unfold Num.decsR at hr;rw [List.all_cons,Bool.and_eq_true] at hr;exact hr.1
theorem Begs.not_quote {l:List UInt8} (h:Begs l):l.head? ≠ some 39:=by
 obtain ⟨b,r,rfl,h1,_⟩:=h
 simpa using h1
theorem Begs.not_beg {l:List UInt8} (h:Begs l):begB l [226,138,130] = false:=by
 obtain ⟨b,r,rfl,_,_,h3⟩:=h;simp only [begB,List.isPrefixOf,Bool.and_eq_false_iff,beq_eq_false_iff_ne,ne_eq];exact .inl (fun e => h3 e.symm)
theorem signB_Z (x:Int):signB x = Quo.signZ x:=by
 unfold signB Quo.signZ;rw [Bool.eq_iff_iff];simp;omega
theorem quoteT {xs:List Int} (h:xs.all Quo.signZ = true):Quo.textQ xs = 39 :: (Quo.qT (Quo.natsZ xs) ++ [39]):=by unfold Quo.textQ;rw [if_pos h];rfl
theorem catN_head {p:List Nd → Option St} {f:List Nd → List UInt8}:∀ {c:Nat} {l:List Nd} {t:St},parK p (c + 1) l = some t → ∃ x,catN p f (c + 1) l = 40 :: x
 | 0,l,t,h => ⟨_,by rw [catN_succ (parK_zero p l)];rfl⟩
 | c + 1,l,t,h => by
  obtain ⟨a,b,ha,hb,rfl⟩:=parK_some h;obtain ⟨x,hx⟩:=catN_head (f:=f) ha;exact ⟨x ++ 40 :: (f (l.drop a.n) ++ [41]),by rw [catN_succ ha,hx];rfl⟩
theorem leaf_read {rd:List UInt8 → Option (List Nd × List UInt8)} {n:Nd} (h:Tid n) (h5:n.kind ≠ 5) {r:List UInt8} (hr:Ends r) (hs:n.shp = [] → True):itemsR rd n.shp (leafT n ++ r) = some ([n],r):=by
 obtain ⟨hrs,hfill⟩:=ok_right h.ok;unfold itemsR;rw [if_pos hrs]
 by_cases h3:n.kind = 3
 ·unfold fillB at hfill
  rw [if_neg (by omega),if_neg (by omega),if_pos h3] at hfill
  simp only [Bool.and_eq_true,beq_iff_eq] at hfill;obtain ⟨⟨hc,hd⟩,hall⟩:=hfill;have hz:n.ints.all Quo.signZ = true:=by
   rw [List.all_eq_true] at hall ⊢;intro x hx;rw [← signB_Z];exact hall x hx
  have hT:leafT n = 39 :: (Quo.qT (Quo.natsZ n.ints) ++ [39]):=by unfold leafT;rw [if_pos h3];exact quoteT hz
  have hq:=Quo.read_of (Quo.nats_sign hz) hr.quote;have hI:Quo.inQ (Quo.natsZ n.ints) ++ r = 39 :: (Quo.qT (Quo.natsZ n.ints) ++ [39] ++ r):=rfl;rw [hI] at hq;rw [hT,List.cons_append];simp only [if_true];rw [hq,Option.bind_some];simp only;rw [if_pos (by rw [Quo.nats_len,hc]),Quo.ints_nats hz]
  have:n.decs = []:=List.eq_nil_of_length_eq_zero hd;congr 2
  cases n
  simp_all
 ·have hle:=h.least h3 h5
  obtain ⟨v1,v2,v3,v4⟩:=vals_ok h.ok h3 h.fit h.vals;have v4:=v4 h5;have hnum:numO n.shp (valsN n) = some n:=by
   unfold numO;rw [if_pos ⟨hrs,v4,v1⟩,hle]
  by_cases h0:n.ints = [] ∧ n.decs = []
  ·-- without items
   have hv0:valsN n = []:=by unfold valsN;rw [h0.1,h0.2];rfl
   have hk2:n.kind = 2:=by rw [← hle,hv0];rfl
   have hc0:cnt n.shp = 0:=by rw [v4,hv0];rfl
   have hsh:n.shp ≠ []:=by
    intro e;rw [e] at hc0;exact absurd hc0 (by decide)
   have hT:leafT n = [48]:=by unfold leafT;rw [if_neg h3,if_pos ⟨hsh,hk2,h0.1,h0.2⟩]
   have hro:Num.readO (48 :: r) = some ([ofD 0],r):=by
    have:=Num.ints_back (xs:=[0]) (by simp) (by intro x hx;rw [List.mem_singleton.1 hx];constructor <;> decide) r hr.npc hr.next
    have e:Num.intsT [0] = [48]:=by unfold Num.intsT;rw [List.map_cons,List.map_nil,Go.Lib.join_one,Num.num_zero]
    rw [e] at this;exact this
   rw [hT];show (if (48:UInt8) = 39 then _ else if (48:UInt8) = 40 then _ else _) = _
   rw [if_neg (by decide),if_neg (by decide)]
   show Option.bind (Num.readO (48 :: r)) _ = _;rw [hro,Option.bind_some];simp only;rw [if_pos ⟨hc0,rfl⟩];rw [hv0] at hnum;rw [hnum];rfl
  ·-- with items
   have hT:leafT n = numsT n:=by unfold leafT;rw [if_neg h3,if_neg];rintro ⟨_,_,a,b⟩;exact h0 ⟨a,b⟩
   have hv0:valsN n ≠ []:=by
    unfold valsN;intro e;rw [List.append_eq_nil_iff,List.map_eq_nil_iff] at e;exact h0 e
   have hlen:¬ (cnt n.shp = 0 ∧ (valsN n).length = 1):=by rintro ⟨a,b⟩;omega
   have hread:Num.readO (numsT n ++ r) = some (valsN n,r) ∧ Begs (numsT n):=by
    unfold numsT
    by_cases h4:n.kind = 4
    ·rw [if_pos h4]
     have hi0:n.ints = []:=by
      unfold fillB at hfill;rw [if_neg (by omega),if_neg (by omega),if_neg h3,if_pos h4] at hfill
      simp only [Bool.and_eq_true,beq_iff_eq] at hfill;exact List.eq_nil_of_length_eq_zero hfill.1.1
     have hvd:valsN n = n.decs:=by unfold valsN;rw [hi0];rfl
     rw [hvd] at v1 v2 hv0 ⊢;have hdr:Num.decsR n.decs = true:=v1;exact ⟨Num.decs_back hv0 (fun d hd => (v2 d hd).1) hdr r hr.npc hr.next,decs_begs hv0 hdr⟩
    ·rw [if_neg h4]
     have hd0:n.decs = []:=by
      unfold fillB at hfill
      by_cases h1:n.kind = 1
      ·rw [if_pos h1] at hfill
       simp only [Bool.and_eq_true,beq_iff_eq] at hfill;exact List.eq_nil_of_length_eq_zero hfill.1.2
      ·rw [if_neg h1] at hfill
       by_cases h2:n.kind = 2
       ·rw [if_pos h2] at hfill
        simp only [Bool.and_eq_true,beq_iff_eq] at hfill;exact List.eq_nil_of_length_eq_zero hfill.2
       ·rw [if_neg h2,if_neg h3,if_neg h4,if_neg h5] at hfill
        cases hfill
     have hvd:valsN n = n.ints.map ofD:=by unfold valsN;rw [hd0];simp
     have hi0:n.ints ≠ []:=fun e => h0 ⟨e,hd0⟩;rw [hvd];exact ⟨Num.ints_back hi0 h.vals r hr.npc hr.next,ints_begs hi0⟩
   obtain ⟨hro,hb⟩:=hread;rw [hT];obtain ⟨b,t,e,b1,b2,b3⟩:=hb.app r;rw [e] at hro ⊢;simp only [b1,b2,if_false];rw [hro,Option.bind_some];simp only;rw [if_neg hlen,hnum];rfl
theorem shp_in {s:List Int} (h:rightB s = true):∀ x ∈ s,In x:=by
 intro x hx;have:=(right_iff.1 h).2.1;have:=List.all_eq_true.1 this x hx;unfold okI at this;simp only [Bool.and_eq_true,decide_eq_true_eq] at this;exact ⟨by omega,by omega⟩
theorem shape_read {d:Nat} {s:List Int} (hs:s ≠ []) (hr:rightB s = true) (x:List UInt8):readR (d + 1) (shpT s ++ x) = itemsR (readR d) s x:=by
 have hb:=ints_begs hs;have hin:=shp_in hr;obtain ⟨a1,a2,a3⟩:=of_all hin;have e:shpT s ++ x = Num.intsT s ++ (226 :: 141 :: 180 :: x):=by unfold shpT;simp
 rw [e,readR_succ,if_neg (by rw [(hb.app _).not_beg];simp),if_neg (hb.app _).not_quote,Num.ints_back hs hin _ (rho_npc x) (rho_next x),Option.bind_some]
 simp only;rw [if_pos (rho_beg x)];show (if (s.map ofD).all whlB = true then itemsR (readR d) ((s.map ofD).map whlV) ((226 :: 141 :: 180 :: x).drop 3) else none) = _
 rw [if_pos a1,a2];rfl
theorem kids_read {d:Nat} (hf:∀ l s,par d l = some s → (∀ m ∈ l.take s.n,Tid m) → ∀ r,Ends r → readR d (noteF d l ++ r) = some (l.take s.n,r)) :
  ∀ {c:Nat} {l:List Nd} {t:St},parK (par d) c l = some t → (∀ m ∈ l.take t.n,Tid m) → ∀ r,kidsR (readR d) c (catN (par d) (noteF d) c l ++ r) = some (l.take t.n,r)
 | 0,l,t,h,_,r => by
  rw [parK_zero] at h
  cases h
  simp [kidsR,catN,st0]
 | c + 1,l,t,h,hT,r => by
  obtain ⟨a,b,ha,hb,rfl⟩:=parK_some h;have hab:l.take (a.plus b).n = l.take a.n ++ (l.drop a.n).take b.n:=take_app_part;rw [hab] at hT ⊢;rw [catN_succ ha,List.append_assoc,kidsR_succ,kids_read hf ha (fun m hm => hT m (List.mem_append_left _ hm)),Option.bind_some];simp only;have hk:=hf _ _ hb (fun m hm => hT m (List.mem_append_right _ hm)) (41 :: r) (.inr ⟨r,rfl⟩);have e:(40 :: (noteF d (l.drop a.n) ++ [41])) ++ r = 40 :: (noteF d (l.drop a.n) ++ 41 :: r):=by simp
  rw [e,kidR_yes hk];rfl
theorem note_read:∀ {d:Nat} {l:List Nd} {s:St},par d l = some s → (∀ m ∈ l.take s.n,Tid m) → ∀ r,Ends r → readR d (noteF d l ++ r) = some (l.take s.n,r)
 | 0,l,s,h,_,_,_ => by cases h
 | d + 1,l,s,h,hT,r,hr => by
  obtain ⟨e,n,l',t,he,rfl,hn,ht,rfl⟩:=par_parts h;obtain rfl:d = e:=by omega
  have htk:(n :: l').take (top n t).n = n :: l'.take t.n:=rfl;rw [htk] at hT ⊢;have hTn:=hT n (by simp)
  have hTk:∀ m ∈ l'.take t.n,Tid m:=fun m hm => hT m (by simp [hm])
  have IH:=fun l s h hT r hr => note_read (d:=d) (l:=l) (s:=s) h hT r hr;rw [noteF_cons]
  by_cases h5:n.kind = 5
  ·simp only [if_pos h5]
   obtain ⟨hrs,hfill⟩:=ok_right hTn.ok;have hn0:n = ⟨5,n.shp,[],[]⟩:=by
    unfold fillB at hfill;rw [if_neg (by omega),if_neg (by omega),if_neg (by omega),if_neg (by omega),if_pos h5] at hfill
    simp only [Bool.and_eq_true,beq_iff_eq] at hfill;have e1:=List.eq_nil_of_length_eq_zero hfill.1;have e2:=List.eq_nil_of_length_eq_zero hfill.2
    cases n
    simp_all
   have hkc:kc n = cnt n.shp:=by unfold kc;rw [if_pos h5]
   have hpos:=hTn.items h5;have hkr:=kids_read IH ht hTk r;rw [hkc] at hkr ht ⊢
   by_cases hs:n.shp = []
   ·rw [if_pos hs]
    have hc1:cnt n.shp = 1:=by rw [hs];decide
    rw [hc1] at hkr ht ⊢;have hcat:catN (par d) (noteF d) 1 l' = 40 :: (noteF d (l'.drop 0) ++ [41]):=by rw [catN_succ (parK_zero (par d) l')];rfl
    rw [kidsR_succ] at hkr;have hk1:kidR (readR d) (catN (par d) (noteF d) 1 l' ++ r) = some (l'.take t.n,r):=by
     have hk0:kidsR (readR d) 0 (catN (par d) (noteF d) 1 l' ++ r) = some ([],catN (par d) (noteF d) 1 l' ++ r):=rfl;rw [hk0,Option.bind_some] at hkr
     cases hq:kidR (readR d) (catN (par d) (noteF d) 1 l' ++ r) with
     | none => rw [hq] at hkr;cases hkr
     | some q =>
      rw [hq] at hkr;exact hkr
    rw [List.append_assoc,readR_succ,if_pos (by simp [begB,List.isPrefixOf])]
    show Option.map _ (kidR (readR d) (catN (par d) (noteF d) 1 l' ++ r)) = _;rw [hk1,Option.map_some];congr 2;rw [hs] at hn0;exact congrArg (· :: _) hn0.symm
   ·rw [if_neg hs,List.append_assoc,shape_read hs hrs]
    have hcat0:∃ x,catN (par d) (noteF d) (cnt n.shp) l' ++ r = 40 :: x:=by
     obtain ⟨c,hc⟩:∃ c,cnt n.shp = c + 1:=⟨cnt n.shp - 1,by omega⟩
     rw [hc] at ht ⊢;obtain ⟨x,hx⟩:=catN_head (f:=noteF d) ht;exact ⟨x ++ r,by rw [hx];rfl⟩
    obtain ⟨x,hx⟩:=hcat0;rw [hx] at hkr ⊢;unfold itemsR;rw [if_pos hrs];show (if (40:UInt8) = 39 then _ else if (40:UInt8) = 40 then _ else _) = _
    rw [if_neg (by decide),if_pos rfl]
    show Option.map _ (kidsR (readR d) (cnt n.shp) (40 :: x)) = _;rw [hkr,Option.map_some];congr 2;exact congrArg (· :: _) hn0.symm
  ·simp only [if_neg h5]
   have hk0:kc n = 0:=by unfold kc;rw [if_neg h5]
   rw [hk0,parK_zero] at ht
   cases ht
   obtain ⟨hrs,hfill⟩:=ok_right hTn.ok;have hlr:=leaf_read (rd:=readR d) hTn h5 hr (fun _ => trivial)
   by_cases hs:n.shp = []
   ·rw [if_pos hs,List.nil_append]
    show readR (d + 1) (leafT n ++ r) = some ([n],r);rw [hs] at hlr;rw [readR_succ]
    by_cases h3:n.kind = 3
    ·have hT:∃ x,leafT n ++ r = 39 :: x:=by
      unfold leafT;rw [if_pos h3];have hz:n.ints.all Quo.signZ = true:=by
       unfold fillB at hfill;rw [if_neg (by omega),if_neg (by omega),if_pos h3] at hfill
       simp only [Bool.and_eq_true] at hfill;have hall:=hfill.2;rw [List.all_eq_true] at hall ⊢;intro x hx;rw [← signB_Z];exact hall x hx
      rw [quoteT hz];exact ⟨_,rfl⟩
     obtain ⟨x,hx⟩:=hT;rw [hx] at hlr ⊢;rw [if_neg (by simp [begB,List.isPrefixOf]),if_pos (by simp)]
     exact hlr
    ·obtain ⟨v1,v2,v3,v4⟩:=vals_ok hTn.ok h3 hTn.fit hTn.vals
     have v4:=v4 h5;have hc1:cnt n.shp = 1:=by rw [hs];decide
     have hb:∃ ds,Num.readO (leafT n ++ r) = some (ds,r) ∧ Begs (leafT n):=by
      unfold leafT;rw [if_neg h3,if_neg (fun h => h.1 hs)];unfold numsT
      by_cases h4:n.kind = 4
      ·rw [if_pos h4]
       have hi0:n.ints = []:=by
        unfold fillB at hfill;rw [if_neg (by omega),if_neg (by omega),if_neg h3,if_pos h4] at hfill
        simp only [Bool.and_eq_true,beq_iff_eq] at hfill;exact List.eq_nil_of_length_eq_zero hfill.1.1
       have hvd:valsN n = n.decs:=by unfold valsN;rw [hi0];rfl
       rw [hvd] at v1 v2 v4;have hne:n.decs ≠ []:=by intro e;rw [e] at v4;simp at v4;omega
       exact ⟨_,Num.decs_back hne (fun d hd => (v2 d hd).1) v1 r hr.npc hr.next,decs_begs hne v1⟩
      ·rw [if_neg h4]
       have hne:n.ints ≠ []:=by
        intro e;unfold fillB at hfill;rw [hc1] at hfill;simp [e,h3,h4,h5] at hfill
       exact ⟨_,Num.ints_back hne hTn.vals r hr.npc hr.next,ints_begs hne⟩
     obtain ⟨ds,hro,hbg⟩:=hb;rw [if_neg (by rw [(hbg.app r).not_beg];simp),if_neg (hbg.app r).not_quote,hro,Option.bind_some]
     simp only;rw [if_neg (by rw [hr.beg];simp)]
     exact hlr
   ·rw [if_neg hs,List.append_assoc,shape_read hs hrs]
    show itemsR (readR d) n.shp (leafT n ++ r) = some ([n],r);exact hlr
theorem note_back {a:List Nd} (hr:rightA a = true) (hf:Fine a) (ht:formA a = a):readR 16 (noteA a) = some (a,[]):=by
 obtain ⟨s,hs⟩:=right_some hr;obtain ⟨h1,_,h3⟩:=whl_some hs;have hT:=tight_tid hr hf ht;have e:a.take s.n = a:=List.take_of_length_le (by omega)
 have:=note_read h1 (by rw [e];exact hT) [] (.inl rfl)
 rw [List.append_nil,e] at this;exact this
theorem parse_back {a:List Nd} (hr:rightA a = true) (hf:Fine a) (ht:formA a = a):parseN (noteA a) = some a:=by
 have e:noteT a = noteA a:=by unfold noteT;rw [if_pos ⟨hr,ht⟩]
 unfold parseN;rw [note_back hr hf ht,Option.bind_some];simp [e]
theorem note_ne {a:List Nd} (hr:rightA a = true) (hf:Fine a) (ht:formA a = a):noteA a ≠ []:=by
 intro e;have:=note_back hr hf ht;rw [e] at this;have h2:readR 16 [] = none:=by
  rw [readR_succ,if_neg (by decide),if_neg (by simp)]
  have:Num.readO [] = none:=Num.readO_wrong (by rw [Num.npc_nil];show (Num.oneD []).2 = false;rw [Num.oneD_nil])
  rw [this];rfl
 rw [h2] at this
 cases this
theorem parse_some {s:List UInt8} {a:List Nd} (h:parseN s = some a) (hs:s ≠ []):rightA a = true ∧ formA a = a ∧ noteA a = s:=by
 unfold parseN at h
 cases hq:readR 16 s with
 | none => rw [hq] at h;cases h
 | some p =>
  rw [hq,Option.bind_some] at h
  by_cases hp:p.2 = [] ∧ noteT p.1 = s
  ·rw [if_pos hp] at h
   cases h
   have h2:=hp.2;unfold noteT at h2
   by_cases ht:rightA p.1 = true ∧ formA p.1 = p.1
   ·rw [if_pos ht] at h2
    exact ⟨ht.1,ht.2,h2⟩
   ·rw [if_neg ht] at h2
    exact absurd h2.symm hs
  ·rw [if_neg hp] at h;cases h
theorem catN_local {p:List Nd → Option St} {f:List Nd → List UInt8} (hp:∀ l s,p l = some s → ∀ r:List Nd,r.take s.n = l.take s.n → p r = some s)
  (hf:∀ l s,p l = some s → ∀ r:List Nd,r.take s.n = l.take s.n → f r = f l) :
  ∀ {c:Nat} {l:List Nd} {t:St},parK p c l = some t → ∀ r:List Nd,r.take t.n = l.take t.n → catN p f c r = catN p f c l
 | 0,l,t,h,r,hr => rfl
 | c + 1,l,t,h,r,hr => by
  obtain ⟨a,b,ha,hb,rfl⟩:=parK_some h;obtain ⟨h1,h2⟩:=take_part (a:=a.n) (b:=b.n) hr;rw [catN_succ ha,catN_succ (parK_local hp ha r h1),catN_local hp hf ha r h1,hf _ _ hb _ h2]
theorem noteF_local:∀ {d:Nat} {l:List Nd} {s:St},par d l = some s → ∀ r:List Nd,r.take s.n = l.take s.n → noteF d r = noteF d l
 | 0,l,s,h,_,_ => by cases h
 | d + 1,l,s,h,r,hr => by
  obtain ⟨e,n,l',t,he,rfl,hn,ht,rfl⟩:=par_parts h;obtain rfl:d = e:=by omega
  cases r with
  | nil => simp [top] at hr
  | cons n' r' =>
   simp only [top,List.take_succ_cons,List.cons.injEq] at hr;obtain ⟨rfl,hr⟩:=hr;rw [noteF_cons,noteF_cons,catN_local (fun l s h => par_local h) (fun l s h => noteF_local h) ht r' hr]
theorem noteF_take {d:Nat} {l:List Nd} {s:St} (h:par d l = some s) {k:Nat} (hk:s.n ≤ k):noteF d (l.take k) = noteF d l :=
 noteF_local h _ (by rw [List.take_take];congr 1;omega)
theorem catN_depth {p q:List Nd → Option St} {f g:List Nd → List UInt8} {e:Nat} (hp:∀ l s,p l = some s → s.d ≤ e → q l = some s) (hf:∀ l s,p l = some s → s.d ≤ e → g l = f l) :
  ∀ {c:Nat} {l:List Nd} {t:St},parK p c l = some t → t.d ≤ e → catN q g c l = catN p f c l
 | 0,l,t,h,_ => rfl
 | c + 1,l,t,h,hd => by
  obtain ⟨a,b,ha,hb,rfl⟩:=parK_some h;simp only [St.plus] at hd;rw [catN_succ ha,catN_succ (parK_depth hp ha (by omega)),catN_depth hp hf ha (by omega),hf _ _ hb (by omega)]
theorem noteF_depth:∀ {d:Nat} {l:List Nd} {s:St},par d l = some s → ∀ e,s.d ≤ e → noteF e l = noteF d l
 | 0,l,s,h,_,_ => by cases h
 | d + 1,l,s,h,e,he => by
  obtain ⟨d',n,l',t,hd,rfl,hn,ht,rfl⟩:=par_parts h;obtain rfl:d = d':=by omega
  simp only [top] at he
  cases e with
  | zero => omega
  | succ e => rw [noteF_cons,noteF_cons,catN_depth (fun l s h hs => par_depth h e hs) (fun l s h hs => noteF_depth h e hs) ht (by omega)]
theorem catN_cons {p:List Nd → Option St} {f:List Nd → List UInt8}:∀ {c:Nat} {l:List Nd} {a b:St},p l = some a → parK p c (l.drop a.n) = some b → catN p f (c + 1) l = 40 :: (f l ++ [41]) ++ catN p f c (l.drop a.n)
 | 0,l,a,b,ha,hb => by
  rw [catN_succ (parK_zero p l)];simp [catN,st0]
 | c + 1,l,a,b,ha,hb => by
  obtain ⟨x,y,hx,hy,rfl⟩:=parK_some hb;rw [catN_succ (parK_cons_mk ha hx),catN_cons ha hx,catN_succ hx,List.append_assoc,show (a.plus x).n = a.n + x.n from rfl,List.drop_drop]
def kidsT:List (List Nd) → List UInt8
 | [] => []
 | k :: ks => 40 :: (noteA k ++ [41]) ++ kidsT ks
theorem kidsT_app (a b:List (List Nd)):kidsT (a ++ b) = kidsT a ++ kidsT b:=by
 induction a with
 | nil => rfl
 | cons k a ih => show 40 :: (noteA k ++ [41]) ++ kidsT (a ++ b) = _;rw [ih];simp [kidsT]
theorem kidsT_step {ks:List (List Nd)} {k:Nat} (h:k < ks.length):kidsT (ks.take (k + 1)) = kidsT (ks.take k) ++ 40 :: (noteA (ks.getD k []) ++ [41]):=by
 rw [take_kid h,kidsT_app];simp [kidsT]
theorem kd_text:∀ {c:Nat} {l:List Nd} {t:St},parK (par 15) c l = some t → t.n = l.length → t.i ≤ 1048576 → catN (par 15) (noteF 15) c l = kidsT (kd l)
 | 0,l,t,h,hn,_ => by
  rw [parK_zero] at h
  cases h
  have:l = []:=List.eq_nil_of_length_eq_zero (by simp [st0] at hn;omega)
  subst this;rw [kd_nil];rfl
 | c + 1,l,t,h,hn,hi => by
  obtain ⟨a,b,ha,hb,rfl⟩:=parK_cons h;simp only [St.plus] at hn hi;have hlen:=par_len ha;have h16:par 16 l = some a:=par_depth ha 16 (by omega)
  have hta:takeA l = a.n:=by unfold takeA;rw [fs_some (fst_mk h16 (by omega))]
  have hl:l ≠ []:=fun e => by subst e;simp at hlen;omega
  rw [catN_cons ha hb,kd_step hl (by rw [hta];omega),hta,kd_text hb (by rw [List.length_drop];omega) (by omega)]
  show _ = 40 :: (noteA (l.take a.n) ++ [41]) ++ kidsT (kd (l.drop a.n));have e:noteA (l.take a.n) = noteF 15 l:=by
   show noteF 16 (l.take a.n) = _;rw [noteF_take h16 (Nat.le_refl _),noteF_depth ha 16 (by omega)]
  rw [e]
def headT (n:Nd):List UInt8:=if n.shp = [] then (if n.kind = 5 then [226,138,130] else []) else shpT n.shp
theorem note_nest {a:List Nd} (hr:rightA a = true) (hk:(a.getD 0 nd0).kind = 5):noteA a = headT (a.getD 0 nd0) ++ kidsT (kidsA a):=by
 obtain ⟨s,hs⟩:=right_some hr;obtain ⟨n,l',t,rfl,hok,ht,rfl,hn,hi⟩:=right_parts hs;have hk':n.kind = 5:=hk;simp only [top] at hi;have hkid:kidsA (n :: l') = kd l':=by unfold kidsA;rw [hr,if_pos rfl];rfl
 show noteF 16 (n :: l') = headT n ++ kidsT (kidsA (n :: l'));rw [hkid,← kd_text ht hn (by omega),noteF_cons]
 unfold headT;simp only [if_pos hk']
theorem note_leaf {a:List Nd} (hr:rightA a = true) (hk:(a.getD 0 nd0).kind ≠ 5):noteA a = headT (a.getD 0 nd0) ++ leafT (a.getD 0 nd0):=by
 obtain ⟨s,hs⟩:=right_some hr;obtain ⟨n,l',t,rfl,hok,ht,rfl,hn,hi⟩:=right_parts hs;have hk':n.kind ≠ 5:=hk;show noteF 16 (n :: l') = headT n ++ leafT n;rw [noteF_cons];unfold headT;simp only [if_neg hk']
theorem app_same {α:Type} {X Y P Q:List α} (h:X ++ Y = P ++ Q) (h1:X.length ≤ P.length) (h2:Y.length ≤ Q.length):X = P ∧ Y = Q:=by
 have:=congrArg List.length h;rw [List.length_append,List.length_append] at this;exact List.append_inj h (by omega)
theorem kd_tight:∀ {c:Nat} {l:List Nd} {t:St},parK (par 15) c l = some t → t.n = l.length → t.i ≤ 1048576 → Fine l → catF (par 15) (formF 15) c l = l → ∀ k ∈ kd l,formA k = k
 | 0,l,t,h,hn,_,_,_ => by
  rw [parK_zero] at h
  cases h
  have:l = []:=List.eq_nil_of_length_eq_zero (by simp [st0] at hn;omega)
  subst this;rw [kd_nil];exact fun k hk => by cases hk
 | c + 1,l,t,h,hn,hi,hf,hc => by
  obtain ⟨a,b,ha,hb,rfl⟩:=parK_cons h;simp only [St.plus] at hn hi;have hlen:=par_len ha;have h16:par 16 l = some a:=par_depth ha 16 (by omega)
  have hta:takeA l = a.n:=by unfold takeA;rw [fs_some (fst_mk h16 (by omega))]
  have hl:l ≠ []:=fun e => by subst e;simp at hlen;omega
  obtain ⟨u,hu,hul,h1,_⟩:=formF_good ha hf;obtain ⟨v,hv,hvl,k1,_⟩:=catF_good (fun l s h hl => formF_good h hl) hb (hf.drop a.n);rw [catF_cons ha hb] at hc;have hsp:formF 15 l ++ catF (par 15) (formF 15) c (l.drop a.n) = l.take a.n ++ l.drop a.n:=by rw [hc,List.take_append_drop]
  obtain ⟨e1,e2⟩:=app_same hsp (by rw [List.length_take];omega) (by rw [List.length_drop];omega)
  rw [kd_step hl (by rw [hta];omega),hta]
  intro k hk
  rcases List.mem_cons.1 hk with rfl | hk
  ·show formF 16 (l.take a.n) = _
   rw [formF_take h16 (Nat.le_refl _),formF_depth ha 16 (by omega),e1]
  ·exact kd_tight hb (by rw [List.length_drop];omega) (by omega) (hf.drop a.n) e2 k hk
theorem kids_tight {a:List Nd} (hr:rightA a = true) (hf:Fine a) (ht:formA a = a) (hk:(a.getD 0 nd0).kind = 5):∀ k ∈ kidsA a,rightA k = true ∧ formA k = k:=by
 obtain ⟨s,hs⟩:=right_some hr;obtain ⟨n,l',t,rfl,hok,htt,rfl,hn,hi⟩:=right_parts hs;have hk':n.kind = 5:=hk;simp only [top] at hi;have hkid:kidsA (n :: l') = kd l':=by unfold kidsA;rw [hr,if_pos rfl];rfl
 obtain ⟨hfit,hin,hl'⟩:=hf.cons;obtain ⟨u,hu,hul,h1,h2,h3,h4,h5,h6⟩:=catF_good (fun l s h hl => formF_good h hl) htt hl';have htl:=parK_len (fun l s h => (par_len h).2.1) htt;have hc:catF (par 15) (formF 15) (kc n) l' = l':=by
  have e:formF 16 (n :: l') = n :: l':=ht;rw [formF_cons] at e;generalize hks:catF (par 15) (formF 15) (kc n) l' = ks at *;have hkf:Fine ks:=⟨by have:=hl'.1;omega,h4,h5⟩
  cases hj:foldO n ks with
  | none =>
   unfold clos at e;rw [hj] at e;exact (List.cons.inj e).2
  | some m =>
   obtain ⟨k1,k2,k3,_⟩:=fold_one hok hfit hin hu hul hkf hj;unfold clos at e;rw [hj] at e;have:m = n:=(List.cons.inj e).1;rw [this] at k3;exact absurd hk' k3
 obtain ⟨_,i2,_⟩:=kd_all htt hn (by omega)
 rw [hkid];exact fun k hk => ⟨i2 k hk,kd_tight htt hn (by omega) hl' hc k hk⟩
theorem empty_none:parseN [] = none:=by
 have h2:readR 16 [] = none:=by
  rw [readR_succ,if_neg (by decide),if_neg (by simp)]
  have:Num.readO [] = none:=Num.readO_wrong (by rw [Num.npc_nil];show (Num.oneD []).2 = false;rw [Num.oneD_nil])
  rw [this];rfl
 unfold parseN;rw [h2];rfl
def Slim (a:List Nd):Prop:=∀ n ∈ a,n.ints.length ≤ 100000 ∧ n.decs.length ≤ 100000
def Trim (a:List Nd):Prop:=Fits a ∧ Vals a ∧ Slim a
theorem Trim.nil:Trim []:=⟨(fun n hn => by cases hn),(fun n hn => by cases hn),(fun n hn => by cases hn)⟩
theorem Trim.cons {n:Nd} {a:List Nd} (hf:Fit n) (hv:∀ x ∈ n.ints,In x) (hl:n.ints.length ≤ 100000 ∧ n.decs.length ≤ 100000) (h:Trim a):Trim (n :: a):=by
 refine ⟨fun m hm => ?_,fun m hm => ?_,fun m hm => ?_⟩
 ·rcases List.mem_cons.1 hm with rfl | hm
  ·exact hf
  ·exact h.1 m hm
 ·rcases List.mem_cons.1 hm with rfl | hm
  ·exact hv
  ·exact h.2.1 m hm
 ·rcases List.mem_cons.1 hm with rfl | hm
  ·exact hl
  ·exact h.2.2 m hm
theorem Trim.app {a b:List Nd} (h:Trim a) (k:Trim b):Trim (a ++ b):=⟨h.1.app k.1,h.2.1.app k.2.1,fun n hn => by
 rcases List.mem_append.1 hn with hn | hn
 ·exact h.2.2 n hn
 ·exact k.2.2 n hn⟩
theorem least_slim {s:List Int} {l:List (Int × Int)} (hl:l.length ≤ 100000):(leastN s l).ints.length ≤ 100000 ∧ (leastN s l).decs.length ≤ 100000:=by
 unfold leastN;split
 ·exact ⟨by show (l.map whlV).length ≤ _;rw [List.length_map];exact hl,by simp⟩
 ·exact ⟨by simp,hl⟩
theorem trim_box {s:List Int} (h:rightB s = true):Trim [⟨5,s,[],[]⟩]:=by
 have:=(right_iff.1 h).1;exact Trim.cons ⟨(show In 5 from ⟨by decide,by decide⟩),by show s.length ≤ _;omega,by simp,by simp,fun x hx => by cases hx⟩ (fun x hx => by cases hx) ⟨by simp,by simp⟩ .nil
def Took (rd:List UInt8 → Option (List Nd × List UInt8)):Prop:=∀ s a r,s.length ≤ 100000 → rd s = some (a,r) → a.length + r.length ≤ s.length ∧ Trim a
theorem kidR_inv {rd:List UInt8 → Option (List Nd × List UInt8)} {s r:List UInt8} {a:List Nd} (h:kidR rd s = some (a,r)):∃ t,s = 40 :: t ∧ rd t = some (a,41 :: r):=by
 cases s with
 | nil => cases h
 | cons b t =>
  unfold kidR at h
  by_cases hb:b = 40
  ·subst hb
   simp only [if_true] at h
   cases hq:rd t with
   | none => rw [hq] at h;cases h
   | some p =>
    rw [hq,Option.bind_some] at h;obtain ⟨x,y⟩:=p
    cases y with
    | nil => cases h
    | cons c u =>
     simp only at h
     by_cases hc:c = 41
     ·subst hc
      rw [if_pos rfl] at h
      cases h
      exact ⟨t,rfl,hq⟩
     ·rw [if_neg hc] at h;cases h
  ·simp only [if_neg hb] at h;cases h
theorem kidR_took {rd:List UInt8 → Option (List Nd × List UInt8)} (hrd:Took rd) {s r:List UInt8} {a:List Nd} (hs:s.length ≤ 100000) (h:kidR rd s = some (a,r)):a.length + r.length + 2 ≤ s.length ∧ Trim a:=by
 obtain ⟨t,rfl,ht⟩:=kidR_inv h;rw [List.length_cons] at hs ⊢;obtain ⟨h1,h2⟩:=hrd t a (41 :: r) (by omega) ht
 rw [List.length_cons] at h1;exact ⟨by omega,h2⟩
theorem kidsR_took {rd:List UInt8 → Option (List Nd × List UInt8)} (hrd:Took rd):∀ {k:Nat} {s r:List UInt8} {a:List Nd},s.length ≤ 100000 → kidsR rd k s = some (a,r) → a.length + r.length + 2 * k ≤ s.length ∧ Trim a
 | 0,s,r,a,hs,h => by
  cases h
  exact ⟨by simp,.nil⟩
 | k + 1,s,r,a,hs,h => by
  rw [kidsR_succ] at h
  cases hq:kidsR rd k s with
  | none => rw [hq] at h;cases h
  | some p =>
   rw [hq,Option.bind_some] at h
   cases hk:kidR rd p.2 with
   | none => rw [hk] at h;cases h
   | some q =>
    rw [hk] at h
    cases h
    obtain ⟨h1,h2⟩:=kidsR_took hrd hs hq;obtain ⟨h3,h4⟩:=kidR_took hrd (a:=q.1) (r:=q.2) (by omega) hk
    exact ⟨by rw [List.length_append];omega,h2.app h4⟩
theorem readQ_len {s r:List UInt8} {cs:List Nat} (h:Quo.readQ s = some (cs,r)):cs.length + r.length + 2 ≤ s.length:=by
 obtain ⟨h1,h2,_⟩:=Quo.read_inv h;have h3:=congrArg List.length h2;rw [List.length_append,Quo.inQ_len] at h3;have h4:cs.length ≤ (Quo.qT cs).length:=by
  clear h h2 h3
  induction cs with
  | nil => simp
  | cons c t ih =>
   have:=Quo.qC_pos (h1 c (by simp))
   have:=ih (fun d hd => h1 d (by simp [hd]))
   show _ ≤ (Quo.qC c ++ Quo.qT t).length;rw [List.length_append,List.length_cons];omega
 omega
theorem itemsR_took {rd:List UInt8 → Option (List Nd × List UInt8)} (hrd:Took rd) {sh:List Int} {s r:List UInt8} {a:List Nd} (hs:s.length ≤ 100000) (h:itemsR rd sh s = some (a,r)):a.length + r.length ≤ s.length + 1 ∧ (sh = [] → a.length + r.length ≤ s.length) ∧ Trim a:=by
 unfold itemsR at h
 by_cases hr:rightB sh = true
 ·rw [if_pos hr] at h
  have hsl:=(right_iff.1 hr).1
  cases s with
  | nil => cases h
  | cons b t =>
   simp only at h
   by_cases h39:b = 39
   ·rw [if_pos h39] at h
    cases hq:Quo.readQ (b :: t) with
    | none => rw [hq] at h;cases h
    | some p =>
     obtain ⟨cs,u⟩:=p;rw [hq,Option.bind_some] at h;simp only at h
     by_cases hc:cs.length = cnt sh
     ·rw [if_pos hc] at h
      cases h
      have hl:=readQ_len hq;obtain ⟨i1,_,_⟩:=Quo.read_inv hq;have hin:∀ x ∈ Quo.intsZ cs,In x:=fun x hx => by
       have:=Quo.signZ_iff.1 (List.all_eq_true.1 (Quo.all_ints i1) x hx);exact ⟨by omega,by omega⟩
      refine ⟨by simp only [List.length_cons,List.length_nil] at *;omega,fun _ => by simp only [List.length_cons,List.length_nil] at *;omega,?_⟩
      exact Trim.cons ⟨in3,by show sh.length ≤ _;omega,by show (Quo.intsZ cs).length ≤ _;rw [Quo.ints_len];omega,by simp,fun x hx => by cases hx⟩ hin ⟨by show (Quo.intsZ cs).length ≤ _;rw [Quo.ints_len];simp only [List.length_cons] at *;omega,by simp⟩ .nil
     ·rw [if_neg hc] at h;cases h
   ·rw [if_neg h39] at h
    by_cases h40:b = 40
    ·rw [if_pos h40] at h
     cases hq:kidsR rd (cnt sh) (b :: t) with
     | none => rw [hq] at h;cases h
     | some p =>
      rw [hq] at h
      cases h
      obtain ⟨h1,h2⟩:=kidsR_took hrd (a:=p.1) (r:=p.2) hs hq;refine ⟨by rw [List.length_cons];omega,fun e => ?_,(trim_box hr).app h2⟩
      subst e;have:cnt [] = 1:=by decide
      rw [this] at h1;rw [List.length_cons];omega
    ·rw [if_neg h40] at h
     cases hq:Num.readO (b :: t) with
     | none => rw [hq] at h;cases h
     | some p =>
      obtain ⟨ds,u⟩:=p;rw [hq,Option.bind_some] at h;obtain ⟨q1,q2,x,q3,q4⟩:=Num.readO_right _ ds u hq;obtain ⟨f1,f2⟩:=Num.readO_few _ ds u hq;have hul:u.length < (b :: t).length:=by
       have:=congrArg List.length q4;rw [List.length_append] at this;have:1 ≤ x.length:=by cases x with
        | nil => exact absurd rfl q3
        | cons c y => simp
       omega
      cases hm:numO sh (if cnt sh = 0 ∧ ds.length = 1 then [] else ds) with
      | none => simp only [hm] at h;cases h
      | some m =>
       simp only [hm] at h
       cases h
       have hds:∀ d ∈ (if cnt sh = 0 ∧ ds.length = 1 then [] else ds),In d.1 ∧ In d.2:=by
        split
        ·exact fun d hd => by cases hd
        ·exact fun d hd => (q1 d hd).2
       have hdl:(if cnt sh = 0 ∧ ds.length = 1 then ([]:List (Int × Int)) else ds).length ≤ 100000:=by
        split
        ·simp
        ·omega
       unfold numO at hm
       by_cases hc:rightB sh = true ∧ cnt sh = (if cnt sh = 0 ∧ ds.length = 1 then ([]:List (Int × Int)) else ds).length ∧ (if cnt sh = 0 ∧ ds.length = 1 then ([]:List (Int × Int)) else ds).all decB = true
       ·rw [if_pos hc] at hm
        cases hm
        obtain ⟨_,_,_,_,k5,k6,_⟩:=least_facts hr hc.2.1 hc.2.2 hds (by omega)
        exact ⟨by simp only [List.length_cons,List.length_nil] at *;omega,fun _ => by simp only [List.length_cons,List.length_nil] at *;omega,Trim.cons k5 k6 (least_slim hdl) .nil⟩
       ·rw [if_neg hc] at hm;cases hm
 ·rw [if_neg hr] at h;cases h
theorem beg_len {s p:List UInt8} (h:begB s p = true):p.length ≤ s.length:=(List.isPrefixOf_iff_prefix.1 h).length_le
theorem readR_took:∀ (d:Nat),Took (readR d)
 | 0 => fun s a r _ h => by cases h
 | d + 1 => fun s a r hs h => by
  have IH:=readR_took d;rw [readR_succ] at h
  by_cases hb:begB s [226,138,130] = true
  ·rw [if_pos hb] at h
   have hl:=beg_len hb;simp only [List.length_cons,List.length_nil] at hl
   cases hq:kidR (readR d) (s.drop 3) with
   | none => rw [hq] at h;cases h
   | some p =>
    rw [hq] at h
    cases h
    obtain ⟨h1,h2⟩:=kidR_took IH (a:=p.1) (r:=p.2) (by rw [List.length_drop];omega) hq
    rw [List.length_drop] at h1;exact ⟨by rw [List.length_cons];omega,(trim_box (by decide)).app h2⟩
  ·rw [if_neg hb] at h
   by_cases h39:s.head? = some 39
   ·rw [if_pos h39] at h
    obtain ⟨_,h2,h3⟩:=itemsR_took IH hs h;exact ⟨h2 rfl,h3⟩
   ·rw [if_neg h39] at h
    cases hq:Num.readO s with
    | none => rw [hq] at h;cases h
    | some p =>
     obtain ⟨ds,u⟩:=p;rw [hq,Option.bind_some] at h;simp only at h;obtain ⟨f1,f2⟩:=Num.readO_few _ ds u hq
     by_cases hp:begB u [226,141,180] = true
     ·rw [if_pos hp] at h
      have hl:=beg_len hp;simp only [List.length_cons,List.length_nil] at hl
      by_cases hw:ds.all whlB = true
      ·rw [if_pos hw] at h
       obtain ⟨h1,_,h3⟩:=itemsR_took IH (by rw [List.length_drop];omega) h
       rw [List.length_drop] at h1;exact ⟨by omega,h3⟩
      ·rw [if_neg hw] at h;cases h
     ·rw [if_neg hp] at h
      obtain ⟨_,h2,h3⟩:=itemsR_took IH hs h;exact ⟨h2 rfl,h3⟩
theorem read_fine {d:Nat} {s r:List UInt8} {a:List Nd} (hs:s.length ≤ 100000) (h:readR d s = some (a,r)):Fine a:=by
 obtain ⟨h1,h2,h3⟩:=readR_took d s a r hs h;exact ⟨by omega,h2,h3.1⟩
theorem parse_fine {s:List UInt8} {a:List Nd} (hs:s.length ≤ 100000) (h:parseN s = some a):Fine a:=by
 unfold parseN at h
 cases hq:readR 16 s with
 | none => rw [hq] at h;cases h
 | some p =>
  rw [hq,Option.bind_some] at h
  by_cases hp:p.2 = [] ∧ noteT p.1 = s
  ·rw [if_pos hp] at h
   cases h
   exact read_fine (r:=p.2) hs hq
  ·rw [if_neg hp] at h;cases h
theorem parse_is {s:List UInt8} {o:Option (List Nd)} (hs:s.length ≤ 100000) (h0:s ≠ []) (h1:∀ a,o = some a → Fine a ∧ rightA a = true ∧ formA a = a ∧ noteA a = s)
  (h2:∀ a,Fine a → rightA a = true → formA a = a → noteA a = s → o = some a):parseN s = o:=by
 cases hq:parseN s with
 | some a =>
  obtain ⟨k1,k2,k3⟩:=parse_some hq h0;exact (h2 a (parse_fine hs hq) k1 k2 k3).symm
 | none =>
  cases ho:o with
  | none => rfl
  | some a =>
   obtain ⟨k1,k2,k3,k4⟩:=h1 a ho;have:=parse_back k2 k1 k3;rw [k4,hq] at this
   cases this
def nsB (c:UInt8):Bool:=Num.isPc c || c == 32
def numS:List UInt8 → Nat
 | [] => 0
 | [c] => if nsB c then 1 else 0
 | c :: d :: l => if nsB c then numS (d :: l) + 1 else if c == 194 && d == 175 then numS l + 2 else 0
theorem numS_ns {c:UInt8} (h:nsB c = true) (l:List UInt8):numS (c :: l) = numS l + 1:=by
 cases l with
 | nil => simp [numS,h]
 | cons d l => rw [numS,if_pos h]
theorem numS_not {c:UInt8} (h:nsB c = false) (h2:c ≠ 194) (l:List UInt8):numS (c :: l) = 0:=by
 cases l with
 | nil => rw [numS,if_neg (by rw [h];decide)]
 | cons d l => rw [numS,if_neg (by rw [h];decide),if_neg (by simp [h2])]
theorem numS_sign (l:List UInt8):numS (194 :: 175 :: l) = numS l + 2:=by rw [numS,if_neg (by decide),if_pos (by decide)]
theorem numS_half {d:UInt8} (h:d ≠ 175) (l:List UInt8):numS (194 :: d :: l) = 0:=by rw [numS,if_neg (by decide),if_neg (by simp [h])]
theorem numS_last:numS [194] = 0:=by decide
theorem numS_le:∀ (l:List UInt8),numS l ≤ l.length
 | [] => Nat.le_refl _
 | [c] => by rw [numS];split <;> simp
 | c :: d :: l => by
  have h1:=numS_le (d :: l);have h2:=numS_le l;simp only [List.length_cons] at *;rw [numS];split
  ·omega
  ·split <;> omega
def AllS (x:List UInt8):Prop:=∀ r,numS (x ++ r) = x.length + numS r
theorem AllS.nil:AllS []:=fun r => by simp
theorem AllS.app {x y:List UInt8} (hx:AllS x) (hy:AllS y):AllS (x ++ y):=fun r => by
 rw [List.append_assoc,hx,hy,List.length_append];omega
theorem AllS.one {c:UInt8} (h:nsB c = true):AllS [c]:=fun r => by
 rw [List.singleton_append,numS_ns h];simp;omega
theorem AllS.minus:AllS [194,175]:=fun r => by
 show numS (194 :: 175 :: r) = _;rw [numS_sign];simp;omega
theorem AllS.all:∀ {x:List UInt8},(∀ c ∈ x,nsB c = true) → AllS x
 | [],_ => .nil
 | c :: x,h => AllS.app (x:=[c]) (.one (h c (by simp))) (AllS.all fun d hd => h d (by simp [hd]))
theorem digits_s (u:Nat):AllS (Go.Lib.decDigits u):=AllS.all fun c hc => by
 obtain ⟨h1,h2⟩:=Num.dd_bytes u c hc;unfold nsB Num.isPc;simp [h1,h2]
theorem num_s (n:Int):AllS (Num.num n):=by
 by_cases h:n < 0
 ·rw [Num.num_neg h]
  exact AllS.app (x:=[194,175]) .minus (digits_s _)
 ·rw [Num.num_pos h];exact digits_s _
theorem text_s {m e:Int}:AllS (Num.text m e):=by
 unfold Num.text;split
 ·split
  ·exact num_s _
  ·exact (num_s _).app (AllS.app (x:=[69]) (.one (by decide)) (num_s _))
 ·exact .nil
theorem join_s:∀ {xs:List (List UInt8)},(∀ x ∈ xs,AllS x) → AllS (Go.Lib.join xs [32])
 | [],_ => by unfold Go.Lib.join;exact .nil
 | [x],h => by rw [Go.Lib.join_one];exact h x (by simp)
 | x :: y :: t,h => by
  have e:=Num.join_app (a:=[x]) (b:=y :: t) (by simp) (by simp)
  rw [List.singleton_append,Go.Lib.join_one] at e;rw [e];exact (h x (by simp)).app (AllS.app (x:=[32]) (.one (by decide)) (join_s fun z hz => h z (by simp [hz])))
theorem ints_s (xs:List Int):AllS (Num.intsT xs):=join_s fun x hx => by
 obtain ⟨n,_,rfl⟩:=List.mem_map.1 hx;exact num_s n
theorem decs_s (ds:List (Int × Int)):AllS (Num.decsT ds):=by
 unfold Num.decsT;split
 ·exact join_s fun x hx => by
   obtain ⟨n,_,rfl⟩:=List.mem_map.1 hx;exact text_s
 ·exact .nil
theorem nums_s (n:Nd):AllS (numsT n):=by
 unfold numsT;split
 ·exact decs_s _
 ·exact ints_s _
theorem Ends.numS {r:List UInt8} (h:Ends r):numS r = 0:=by
 rcases h with rfl | ⟨t,rfl⟩
 ·rfl
 ·exact numS_not (by decide) (by decide) t
theorem rho_numS (r:List UInt8):numS (226 :: 141 :: 180 :: r) = 0:=numS_not (by decide) (by decide) _
def quotN (s:List UInt8):Nat:=match Quo.scanQ (s.drop 1) with
 | some p => s.length - p.2.length
 | none => s.length
def signsP (sh:List Int) (s:List UInt8):Option (List Nd × List UInt8):=(Quo.readQ (s.take (quotN s))).map fun p => ([⟨3,sh,Quo.intsZ p.1,[]⟩],s.drop (quotN s))
def numsP (s:List UInt8):Option (List (Int × Int) × List UInt8):=(Num.readO (s.take (numS s))).bind fun p => if p.2 = [] then some (p.1,s.drop (numS s)) else none
def layP (sh:List Int) (l:List (Int × Int)) (s:List UInt8):Option (List Nd × List UInt8):=(numO sh l).map fun m => ([m],s)
def wholeP (l:List (Int × Int)):Option (List Int):=(numO [(l.length:Int)] l).bind fun m => if m.kind = 4 then none else some m.ints
def shapedP (rd:List UInt8 → Option (List Nd × List UInt8)) (sh:List Int) (s:List UInt8):Option (List Nd × List UInt8) :=
 if rightB sh = true then
  if begB s [40] = true then (kidsR rd (cnt sh) s).map fun p => (⟨5,sh,[],[]⟩ :: p.1,p.2)
  else if begB s [39] = true then signsP sh s
  else if cnt sh = 0 then (if begB s [48] = true then layP sh [] (s.drop 1) else none)
  else (numsP s).bind fun p => layP sh p.1 p.2
 else none
def arrayP:Nat → List UInt8 → Option (List Nd × List UInt8)
 | 0,_ => none
 | d + 1,s =>
  if begB s [226,138,130] = true then shapedP (arrayP d) [] (s.drop 3)
  else if begB s [39] = true then signsP [] s
  else (numsP s).bind fun p =>
   if begB p.2 [226,141,180] = true then (wholeP p.1).bind fun sh => shapedP (arrayP d) sh (p.2.drop 3)
   else layP [] p.1 p.2
theorem arrayP_succ (d:Nat) (s:List UInt8):arrayP (d + 1) s =
  if begB s [226,138,130] = true then shapedP (arrayP d) [] (s.drop 3)
  else if begB s [39] = true then signsP [] s
  else (numsP s).bind fun p =>
   if begB p.2 [226,141,180] = true then (wholeP p.1).bind fun sh => shapedP (arrayP d) sh (p.2.drop 3)
   else layP [] p.1 p.2:=rfl
def parseP (s:List UInt8):Option (List Nd):=(arrayP 16 s).bind fun p => if noteT p.1 = s then some p.1 else none
theorem beg_one {s:List UInt8} {b:UInt8}:begB s [b] = true ↔ ∃ t,s = b :: t:=by
 cases s with
 | nil => simp [begB,List.isPrefixOf]
 | cons c t =>
  simp only [begB,List.isPrefixOf,Bool.and_true,beq_iff_eq,List.cons.injEq];constructor
  ·rintro rfl;exact ⟨t,rfl,rfl⟩
  ·rintro ⟨_,h,_⟩;exact h.symm
theorem beg_not {s:List UInt8} {b:UInt8} (h:s.head? ≠ some b):begB s [b] = false:=by
 rw [Bool.eq_false_iff];intro e;obtain ⟨t,rfl⟩:=beg_one.1 e;exact h rfl
theorem nums_read {x r:List UInt8} {ds:List (Int × Int)} (hx:AllS x) (hr:numS r = 0) (h:Num.readO (x ++ []) = some (ds,[])):numsP (x ++ r) = some (ds,r):=by
 have e:numS (x ++ r) = x.length:=by rw [hx,hr];rfl
 unfold numsP;rw [e,List.take_left,List.drop_left];rw [List.append_nil] at h;rw [h,Option.bind_some,if_pos rfl]
theorem wholeP_yes {s:List Int} (hs:∀ x ∈ s,In x) (hl:s.length ≤ 1048576):wholeP (s.map ofD) = some s:=by
 obtain ⟨a1,a2,a3⟩:=of_all hs;unfold wholeP numO;obtain ⟨m,hm⟩:∃ m,(s.map ofD).length = m:=⟨_,rfl⟩;have hml:m ≤ 1048576:=by rw [← hm,List.length_map];exact hl
 rw [hm];have hr:rightB [(m:Int)] = true:=by
  rw [right_iff];refine ⟨by simp,?_,?_⟩
  ·simp only [List.all_cons,List.all_nil,Bool.and_true,okI,Bool.and_eq_true,decide_eq_true_eq];omega
  ·simp only [prodN,toN,List.map_cons,List.map_nil,Int.toNat_natCast];omega
 have hc:cnt [(m:Int)] = m:=by
  unfold cnt;rw [if_pos hr];simp only [prodN,toN,List.map_cons,List.map_nil,Int.toNat_natCast];omega
 rw [if_pos ⟨hr,hc,a3⟩,Option.bind_some];unfold leastN;rw [if_pos a1,a2];rw [if_neg (by show kindI s ≠ 4;rcases (kindI_is s).1 with h | h <;> rw [h] <;> decide)]
theorem quot_of {cs:List Nat} {r:List UInt8} (h:r.head? ≠ some 39):quotN (39 :: (Quo.qT cs ++ [39] ++ r)) = (Quo.qT cs).length + 2:=by
 unfold quotN;have e:(39 :: (Quo.qT cs ++ [39] ++ r)).drop 1 = Quo.dbl (Quo.textD cs) ++ 39 :: r:=by rw [Quo.dbl_text];simp
 rw [e,Quo.scan_of _ h];simp;omega
theorem signs_read {sh xs:List Int} (hz:xs.all Quo.signZ = true) {r:List UInt8} (hr:Ends r):signsP sh (39 :: (Quo.qT (Quo.natsZ xs) ++ [39]) ++ r) = some ([⟨3,sh,xs,[]⟩],r):=by
 have e:39 :: (Quo.qT (Quo.natsZ xs) ++ [39]) ++ r = 39 :: (Quo.qT (Quo.natsZ xs) ++ [39] ++ r):=rfl;unfold signsP;rw [e,quot_of hr.quote,← e];have hl:(39 :: (Quo.qT (Quo.natsZ xs) ++ [39])).length = (Quo.qT (Quo.natsZ xs)).length + 2:=by simp
 rw [← hl,List.take_left,List.drop_left];have hq:=Quo.read_of (Quo.nats_sign hz) (r:=[]) (by simp)
 rw [List.append_nil] at hq;have hI:Quo.inQ (Quo.natsZ xs) = 39 :: (Quo.qT (Quo.natsZ xs) ++ [39]):=rfl;rw [← hI,hq];simp only [Option.map_some];rw [Quo.ints_nats hz]
theorem sign_all {n:Nd} (hfill:fillB n (cnt n.shp) = true) (h3:n.kind = 3):n.ints.all Quo.signZ = true ∧ n.ints.length = cnt n.shp ∧ n.decs = []:=by
 unfold fillB at hfill;rw [if_neg (by omega),if_neg (by omega),if_pos h3] at hfill
 simp only [Bool.and_eq_true,beq_iff_eq] at hfill;obtain ⟨⟨hc,hd⟩,hall⟩:=hfill;refine ⟨?_,hc,List.eq_nil_of_length_eq_zero hd⟩;rw [List.all_eq_true] at hall ⊢;intro x hx;rw [← signB_Z];exact hall x hx
theorem chars_is {n:Nd} (h3:n.kind = 3) (hd:n.decs = []):(⟨3,n.shp,n.ints,[]⟩:Nd) = n:=by
 cases n
 simp_all
theorem vals_read {n:Nd} (h:Tid n) (h3:n.kind ≠ 3) (h5:n.kind ≠ 5) (h0:¬ (n.ints = [] ∧ n.decs = [])):Num.readO (numsT n ++ []) = some (valsN n,[]) ∧ Begs (numsT n):=by
 obtain ⟨hrs,hfill⟩:=ok_right h.ok;obtain ⟨v1,v2,v3,v4⟩:=vals_ok h.ok h3 h.fit h.vals;have hv0:valsN n ≠ []:=by
  unfold valsN;intro e;rw [List.append_eq_nil_iff,List.map_eq_nil_iff] at e;exact h0 e
 unfold numsT
 by_cases h4:n.kind = 4
 ·rw [if_pos h4]
  have hi0:n.ints = []:=by
   unfold fillB at hfill;rw [if_neg (by omega),if_neg (by omega),if_neg h3,if_pos h4] at hfill
   simp only [Bool.and_eq_true,beq_iff_eq] at hfill;exact List.eq_nil_of_length_eq_zero hfill.1.1
  have hvd:valsN n = n.decs:=by unfold valsN;rw [hi0];rfl
  rw [hvd] at v1 v2 hv0 ⊢;have hdr:Num.decsR n.decs = true:=v1;exact ⟨Num.decs_back hv0 (fun d hd => (v2 d hd).1) hdr [] rfl rfl,decs_begs hv0 hdr⟩
 ·rw [if_neg h4]
  have hd0:n.decs = []:=by
   unfold fillB at hfill
   by_cases h1:n.kind = 1
   ·rw [if_pos h1] at hfill
    simp only [Bool.and_eq_true,beq_iff_eq] at hfill;exact List.eq_nil_of_length_eq_zero hfill.1.2
   ·rw [if_neg h1] at hfill
    by_cases h2:n.kind = 2
    ·rw [if_pos h2] at hfill
     simp only [Bool.and_eq_true,beq_iff_eq] at hfill;exact List.eq_nil_of_length_eq_zero hfill.2
    ·rw [if_neg h2,if_neg h3,if_neg h4,if_neg h5] at hfill
     cases hfill
  have hvd:valsN n = n.ints.map ofD:=by unfold valsN;rw [hd0];simp
  have hi0:n.ints ≠ []:=fun e => h0 ⟨e,hd0⟩;rw [hvd];exact ⟨Num.ints_back hi0 h.vals [] rfl rfl,ints_begs hi0⟩
theorem nums_is {n:Nd} (h:Tid n) (h3:n.kind ≠ 3) (h5:n.kind ≠ 5):numO n.shp (valsN n) = some n ∧ cnt n.shp = (valsN n).length:=by
 obtain ⟨hrs,hfill⟩:=ok_right h.ok;obtain ⟨v1,v2,v3,v4⟩:=vals_ok h.ok h3 h.fit h.vals;refine ⟨?_,v4 h5⟩;unfold numO;rw [if_pos ⟨hrs,v4 h5,v1⟩,h.least h3 h5]
theorem begs_not {x:List UInt8} (h:Begs x):begB x [40] = false ∧ begB x [39] = false ∧ begB x [226,138,130] = false:=by
 refine ⟨beg_not ?_,beg_not h.not_quote,h.not_beg⟩;obtain ⟨b,r,rfl,_,h2,_⟩:=h
 simpa using h2
theorem leaf_shaped {rd:List UInt8 → Option (List Nd × List UInt8)} {n:Nd} (h:Tid n) (h5:n.kind ≠ 5) (hs:n.shp ≠ []) {r:List UInt8} (hr:Ends r):shapedP rd n.shp (leafT n ++ r) = some ([n],r):=by
 obtain ⟨hrs,hfill⟩:=ok_right h.ok;unfold shapedP;rw [if_pos hrs]
 by_cases h3:n.kind = 3
 ·obtain ⟨hz,hc,hd⟩:=sign_all hfill h3
  have hT:leafT n = 39 :: (Quo.qT (Quo.natsZ n.ints) ++ [39]):=by unfold leafT;rw [if_pos h3];exact quoteT hz
  have hb:begB (39 :: (Quo.qT (Quo.natsZ n.ints) ++ [39]) ++ r) [39] = true:=beg_one.2 ⟨_,rfl⟩;rw [hT,if_neg (by rw [beg_not (by simp)];simp),if_pos hb,signs_read hz hr,chars_is h3 hd]
 ·obtain ⟨hn,hc⟩:=nums_is h h3 h5
  by_cases h0:n.ints = [] ∧ n.decs = []
  ·have hv0:valsN n = []:=by unfold valsN;rw [h0.1,h0.2];rfl
   have hle:=h.least h3 h5;have hk2:n.kind = 2:=by rw [← hle,hv0];rfl
   have hT:leafT n = [48]:=by unfold leafT;rw [if_neg h3,if_pos ⟨hs,hk2,h0.1,h0.2⟩]
   rw [hv0] at hn hc;have hc:cnt n.shp = 0:=hc;have hb:begB ([48] ++ r) [48] = true:=beg_one.2 ⟨r,rfl⟩;rw [hT,if_neg (by rw [beg_not (by simp)];simp),if_neg (by rw [beg_not (by simp)];simp),if_pos hc,if_pos hb]
   unfold layP;rw [hn];rfl
  ·have hT:leafT n = numsT n:=by unfold leafT;rw [if_neg h3,if_neg];rintro ⟨_,_,a,b⟩;exact h0 ⟨a,b⟩
   obtain ⟨hread,hb⟩:=vals_read h h3 h5 h0;obtain ⟨b1,b2,b3⟩:=begs_not (hb.app r);have hv0:valsN n ≠ []:=by
    unfold valsN;intro e;rw [List.append_eq_nil_iff,List.map_eq_nil_iff] at e;exact h0 e
   have hne:cnt n.shp ≠ 0:=by
    rw [hc];exact fun e => hv0 (List.eq_nil_of_length_eq_zero e)
   rw [hT,if_neg (by rw [b1];simp),if_neg (by rw [b2];simp),if_neg hne,nums_read (nums_s n) hr.numS hread,Option.bind_some]
   unfold layP;simp only;rw [hn];rfl
theorem leaf_alone {d:Nat} {n:Nd} (h:Tid n) (h5:n.kind ≠ 5) (hs:n.shp = []) {r:List UInt8} (hr:Ends r):arrayP (d + 1) (leafT n ++ r) = some ([n],r):=by
 obtain ⟨hrs,hfill⟩:=ok_right h.ok;rw [arrayP_succ]
 by_cases h3:n.kind = 3
 ·obtain ⟨hz,hc,hd⟩:=sign_all hfill h3
  have hT:leafT n = 39 :: (Quo.qT (Quo.natsZ n.ints) ++ [39]):=by unfold leafT;rw [if_pos h3];exact quoteT hz
  have hb:begB (39 :: (Quo.qT (Quo.natsZ n.ints) ++ [39]) ++ r) [39] = true:=beg_one.2 ⟨_,rfl⟩;rw [hT,if_neg (by simp [begB,List.isPrefixOf]),if_pos hb,signs_read hz hr]
  have:=chars_is h3 hd;rw [hs] at this;rw [this]
 ·obtain ⟨hn,hc⟩:=nums_is h h3 h5
  have hc1:cnt n.shp = 1:=by rw [hs];decide
  have h0:¬ (n.ints = [] ∧ n.decs = []):=by
   rintro ⟨a,b⟩;have:valsN n = []:=by unfold valsN;rw [a,b];rfl
   rw [this,hc1] at hc
   cases hc
  have hT:leafT n = numsT n:=by unfold leafT;rw [if_neg h3,if_neg];rintro ⟨_,_,a,b⟩;exact h0 ⟨a,b⟩
  obtain ⟨hread,hb⟩:=vals_read h h3 h5 h0;obtain ⟨b1,b2,b3⟩:=begs_not (hb.app r);rw [hT,if_neg (by rw [b3];simp),if_neg (by rw [b2];simp),nums_read (nums_s n) hr.numS hread,Option.bind_some]
  simp only;rw [if_neg (by rw [hr.beg];simp)]
  unfold layP;rw [hs] at hn;rw [hn];rfl
theorem shape_readP {d:Nat} {s:List Int} (hs:s ≠ []) (hr:rightB s = true) (x:List UInt8):arrayP (d + 1) (shpT s ++ x) = shapedP (arrayP d) s x:=by
 have hb:=ints_begs hs;have hin:=shp_in hr;have hl:=(right_iff.1 hr).1;have e:shpT s ++ x = Num.intsT s ++ (226 :: 141 :: 180 :: x):=by unfold shpT;simp
 obtain ⟨b1,b2,b3⟩:=begs_not (hb.app (226 :: 141 :: 180 :: x));rw [e,arrayP_succ,if_neg (by rw [b3];simp),if_neg (by rw [b2];simp),nums_read (ints_s s) (rho_numS x) (Num.ints_back hs hin [] rfl rfl),Option.bind_some]
 simp only;rw [if_pos (rho_beg x)];show ((wholeP (s.map ofD)).bind fun sh => shapedP (arrayP d) sh x) = _;rw [wholeP_yes hin (by omega)]
 rfl
theorem kids_readP {d:Nat} (hf:∀ l s,par d l = some s → (∀ m ∈ l.take s.n,Tid m) → ∀ r,Ends r → arrayP d (noteF d l ++ r) = some (l.take s.n,r)) :
  ∀ {c:Nat} {l:List Nd} {t:St},parK (par d) c l = some t → (∀ m ∈ l.take t.n,Tid m) → ∀ r,kidsR (arrayP d) c (catN (par d) (noteF d) c l ++ r) = some (l.take t.n,r)
 | 0,l,t,h,_,r => by
  rw [parK_zero] at h
  cases h
  simp [kidsR,catN,st0]
 | c + 1,l,t,h,hT,r => by
  obtain ⟨a,b,ha,hb,rfl⟩:=parK_some h;have hab:l.take (a.plus b).n = l.take a.n ++ (l.drop a.n).take b.n:=take_app_part;rw [hab] at hT ⊢;rw [catN_succ ha,List.append_assoc,kidsR_succ,kids_readP hf ha (fun m hm => hT m (List.mem_append_left _ hm)),Option.bind_some];simp only;have hk:=hf _ _ hb (fun m hm => hT m (List.mem_append_right _ hm)) (41 :: r) (.inr ⟨r,rfl⟩);have e:(40 :: (noteF d (l.drop a.n) ++ [41])) ++ r = 40 :: (noteF d (l.drop a.n) ++ 41 :: r):=by simp
  rw [e,kidR_yes hk];rfl
theorem note_readP:∀ {d:Nat} {l:List Nd} {s:St},par d l = some s → (∀ m ∈ l.take s.n,Tid m) → ∀ r,Ends r → arrayP d (noteF d l ++ r) = some (l.take s.n,r)
 | 0,l,s,h,_,_,_ => by cases h
 | d + 1,l,s,h,hT,r,hr => by
  obtain ⟨e,n,l',t,he,rfl,hn,ht,rfl⟩:=par_parts h;obtain rfl:d = e:=by omega
  have htk:(n :: l').take (top n t).n = n :: l'.take t.n:=rfl;rw [htk] at hT ⊢;have hTn:=hT n (by simp)
  have hTk:∀ m ∈ l'.take t.n,Tid m:=fun m hm => hT m (by simp [hm])
  have IH:=fun l s h hT r hr => note_readP (d:=d) (l:=l) (s:=s) h hT r hr;rw [noteF_cons]
  by_cases h5:n.kind = 5
  ·simp only [if_pos h5]
   obtain ⟨hrs,hfill⟩:=ok_right hTn.ok;have hn0:n = ⟨5,n.shp,[],[]⟩:=by
    unfold fillB at hfill;rw [if_neg (by omega),if_neg (by omega),if_neg (by omega),if_neg (by omega),if_pos h5] at hfill
    simp only [Bool.and_eq_true,beq_iff_eq] at hfill;have e1:=List.eq_nil_of_length_eq_zero hfill.1;have e2:=List.eq_nil_of_length_eq_zero hfill.2
    cases n
    simp_all
   have hkc:kc n = cnt n.shp:=by unfold kc;rw [if_pos h5]
   have hpos:=hTn.items h5;have hkr:=kids_readP IH ht hTk r;have hcat0:∃ x,catN (par d) (noteF d) (cnt n.shp) l' ++ r = 40 :: x:=by
    rw [hkc] at ht;obtain ⟨c,hc⟩:∃ c,cnt n.shp = c + 1:=⟨cnt n.shp - 1,by omega⟩
    rw [hc] at ht ⊢;obtain ⟨x,hx⟩:=catN_head (f:=noteF d) ht;exact ⟨x ++ r,by rw [hx];rfl⟩
   rw [hkc] at hkr ⊢;have hsp:shapedP (arrayP d) n.shp (catN (par d) (noteF d) (cnt n.shp) l' ++ r) = some (n :: l'.take t.n,r):=by
    unfold shapedP;rw [if_pos hrs,if_pos (beg_one.2 hcat0),hkr,Option.map_some];congr 2;exact congrArg (· :: _) hn0.symm
   by_cases hs:n.shp = []
   ·rw [if_pos hs,List.append_assoc,arrayP_succ,if_pos (by simp [begB,List.isPrefixOf])]
    show shapedP (arrayP d) [] (catN (par d) (noteF d) (cnt n.shp) l' ++ r) = _;rw [← hsp,hs]
   ·rw [if_neg hs,List.append_assoc,shape_readP hs hrs]
    exact hsp
  ·simp only [if_neg h5]
   have hk0:kc n = 0:=by unfold kc;rw [if_neg h5]
   rw [hk0,parK_zero] at ht
   cases ht
   obtain ⟨hrs,hfill⟩:=ok_right hTn.ok
   by_cases hs:n.shp = []
   ·rw [if_pos hs,List.nil_append]
    show arrayP (d + 1) (leafT n ++ r) = some ([n],r);exact leaf_alone hTn h5 hs hr
   ·rw [if_neg hs,List.append_assoc,shape_readP hs hrs]
    exact leaf_shaped hTn h5 hs hr
theorem note_backP {a:List Nd} (hr:rightA a = true) (hf:Fine a) (ht:formA a = a):arrayP 16 (noteA a) = some (a,[]):=by
 obtain ⟨s,hs⟩:=right_some hr;obtain ⟨h1,_,h3⟩:=whl_some hs;have hT:=tight_tid hr hf ht;have e:a.take s.n = a:=List.take_of_length_le (by omega)
 have:=note_readP h1 (by rw [e];exact hT) [] (.inl rfl)
 rw [List.append_nil,e] at this;exact this
theorem signs_took {sh:List Int} (hsl:sh.length ≤ 1100000) {s r:List UInt8} {a:List Nd} (hs:s.length ≤ 100000) (h:signsP sh s = some (a,r)):a.length + r.length ≤ s.length ∧ Trim a:=by
 unfold signsP at h
 cases hq:Quo.readQ (s.take (quotN s)) with
 | none => rw [hq] at h;cases h
 | some p =>
  obtain ⟨cs,u⟩:=p;rw [hq] at h
  cases h
  have hl:=readQ_len hq;rw [List.length_take] at hl;obtain ⟨i1,_,_⟩:=Quo.read_inv hq;have hin:∀ x ∈ Quo.intsZ cs,In x:=fun x hx => by
   have:=Quo.signZ_iff.1 (List.all_eq_true.1 (Quo.all_ints i1) x hx);exact ⟨by omega,by omega⟩
  refine ⟨by rw [List.length_drop];simp only [List.length_cons,List.length_nil];omega,?_⟩
  exact Trim.cons ⟨in3,by show sh.length ≤ _;omega,by show (Quo.intsZ cs).length ≤ _;rw [Quo.ints_len];omega,by simp,fun x hx => by cases hx⟩ hin ⟨by show (Quo.intsZ cs).length ≤ _;rw [Quo.ints_len];omega,by simp⟩ .nil
theorem nums_took {s r:List UInt8} {ds:List (Int × Int)} (h:numsP s = some (ds,r)):(∀ d ∈ ds,In d.1 ∧ In d.2) ∧ ds.all decB = true ∧ ds.length ≤ s.length ∧ r.length + 1 ≤ s.length ∧ r = s.drop (numS s) ∧ ds ≠ []:=by
 unfold numsP at h
 cases hq:Num.readO (s.take (numS s)) with
 | none => rw [hq] at h;cases h
 | some p =>
  obtain ⟨l,u⟩:=p;rw [hq,Option.bind_some] at h;simp only at h
  by_cases hu:u = []
  ·rw [if_pos hu] at h
   cases h
   obtain ⟨q1,q2,x,q3,q4⟩:=Num.readO_right _ _ _ hq;obtain ⟨f1,f2⟩:=Num.readO_few _ _ _ hq;have hn:=numS_le s;have hx:1 ≤ (s.take (numS s)).length:=by
    rw [q4,List.length_append];have:1 ≤ x.length:=by cases x with
     | nil => exact absurd rfl q3
     | cons c y => simp
    omega
   rw [List.length_take] at hx f1 f2;exact ⟨fun d hd => (q1 d hd).2,List.all_eq_true.2 fun d hd => (q1 d hd).1,by omega,by rw [List.length_drop];omega,rfl,q2⟩
  ·rw [if_neg hu] at h;cases h
theorem lay_took {sh:List Int} {ds:List (Int × Int)} {s r:List UInt8} {a:List Nd} (hds:∀ d ∈ ds,In d.1 ∧ In d.2) (hdl:ds.length ≤ 100000) (h:layP sh ds s = some (a,r)):a.length = 1 ∧ r = s ∧ Trim a:=by
 unfold layP at h
 cases hm:numO sh ds with
 | none => rw [hm] at h;cases h
 | some m =>
  rw [hm] at h
  cases h
  unfold numO at hm
  by_cases hc:rightB sh = true ∧ cnt sh = ds.length ∧ ds.all decB = true
  ·rw [if_pos hc] at hm
   cases hm
   obtain ⟨_,_,_,_,k5,k6,_⟩:=least_facts hc.1 hc.2.1 hc.2.2 hds (by omega)
   exact ⟨rfl,rfl,Trim.cons k5 k6 (least_slim hdl) .nil⟩
  ·rw [if_neg hc] at hm;cases hm
theorem shaped_took {rd:List UInt8 → Option (List Nd × List UInt8)} (hrd:Took rd) {sh:List Int} {s r:List UInt8} {a:List Nd} (hs:s.length ≤ 100000) (h:shapedP rd sh s = some (a,r)):a.length + r.length ≤ s.length + 1 ∧ Trim a:=by
 unfold shapedP at h
 by_cases hr:rightB sh = true
 ·rw [if_pos hr] at h
  have hsl:=(right_iff.1 hr).1
  by_cases h40:begB s [40] = true
  ·rw [if_pos h40] at h
   cases hq:kidsR rd (cnt sh) s with
   | none => rw [hq] at h;cases h
   | some p =>
    rw [hq] at h
    cases h
    obtain ⟨h1,h2⟩:=kidsR_took hrd (a:=p.1) (r:=p.2) hs hq;exact ⟨by rw [List.length_cons];omega,(trim_box hr).app h2⟩
  ·rw [if_neg h40] at h
   by_cases h39:begB s [39] = true
   ·rw [if_pos h39] at h
    obtain ⟨h1,h2⟩:=signs_took (by omega) hs h
    exact ⟨by omega,h2⟩
   ·rw [if_neg h39] at h
    by_cases h0:cnt sh = 0
    ·rw [if_pos h0] at h
     by_cases h48:begB s [48] = true
     ·rw [if_pos h48] at h
      obtain ⟨h1,rfl,h2⟩:=lay_took (fun d hd => by cases hd) (by simp) h
      exact ⟨by rw [List.length_drop];omega,h2⟩
     ·rw [if_neg h48] at h;cases h
    ·rw [if_neg h0] at h
     cases hq:numsP s with
     | none => rw [hq] at h;cases h
     | some p =>
      rw [hq,Option.bind_some] at h;obtain ⟨n1,n2,n3,n4,n5,n6⟩:=nums_took (ds:=p.1) (r:=p.2) hq;obtain ⟨h1,rfl,h2⟩:=lay_took n1 (by omega) h
      exact ⟨by omega,h2⟩
 ·rw [if_neg hr] at h;cases h
theorem arrayP_took:∀ (d:Nat),Took (arrayP d)
 | 0 => fun s a r _ h => by cases h
 | d + 1 => fun s a r hs h => by
  have IH:=arrayP_took d;rw [arrayP_succ] at h
  by_cases hb:begB s [226,138,130] = true
  ·rw [if_pos hb] at h
   have hl:=beg_len hb;simp only [List.length_cons,List.length_nil] at hl;obtain ⟨h1,h2⟩:=shaped_took IH (by rw [List.length_drop];omega) h
   rw [List.length_drop] at h1;exact ⟨by omega,h2⟩
  ·rw [if_neg hb] at h
   by_cases h39:begB s [39] = true
   ·rw [if_pos h39] at h
    exact signs_took (by simp) hs h
   ·rw [if_neg h39] at h
    cases hq:numsP s with
    | none => rw [hq] at h;cases h
    | some p =>
     obtain ⟨ds,u⟩:=p;rw [hq,Option.bind_some] at h;simp only at h;obtain ⟨n1,n2,n3,n4,n5,n6⟩:=nums_took hq
     by_cases hp:begB u [226,141,180] = true
     ·rw [if_pos hp] at h
      have hl:=beg_len hp;simp only [List.length_cons,List.length_nil] at hl
      cases hw:wholeP ds with
      | none => rw [hw] at h;cases h
      | some sh =>
       rw [hw,Option.bind_some] at h;obtain ⟨h1,h3⟩:=shaped_took IH (by rw [List.length_drop];omega) h
       rw [List.length_drop] at h1;exact ⟨by omega,h3⟩
     ·rw [if_neg hp] at h
      obtain ⟨h1,rfl,h2⟩:=lay_took n1 (by omega) h
      exact ⟨by omega,h2⟩
theorem array_fine {d:Nat} {s r:List UInt8} {a:List Nd} (hs:s.length ≤ 100000) (h:arrayP d s = some (a,r)):Fine a:=by
 obtain ⟨h1,h2,h3,h4⟩:=arrayP_took d s a r hs h;exact ⟨by omega,h2,h3⟩
theorem array_slim {d:Nat} {s r:List UInt8} {a:List Nd} (hs:s.length ≤ 100000) (h:arrayP d s = some (a,r)):Slim a:=(arrayP_took d s a r hs h).2.2.2
theorem array_nil (d:Nat):arrayP d [] = none:=by
 cases d with
 | zero => rfl
 | succ d =>
  rw [arrayP_succ,if_neg (by decide),if_neg (by decide)]
  have:Num.readO [] = none:=Num.readO_wrong (by rw [Num.npc_nil];show (Num.oneD []).2 = false;rw [Num.oneD_nil])
  unfold numsP;show ((Num.readO []).bind _).bind _ = none;rw [this];rfl
theorem parseP_is {s:List UInt8} (hs:s.length ≤ 100000):parseP s = parseN s:=by
 by_cases h0:s = []
 ·subst h0
  rw [empty_none];unfold parseP;rw [array_nil];rfl
 ·refine (parse_is hs h0 (fun a ha => ?_) (fun a hf hr ht hn => ?_)).symm
  ·unfold parseP at ha
   cases hq:arrayP 16 s with
   | none => rw [hq] at ha;cases ha
   | some p =>
    rw [hq,Option.bind_some] at ha
    by_cases hp:noteT p.1 = s
    ·rw [if_pos hp] at ha
     cases ha
     have hf:=array_fine (r:=p.2) hs hq;unfold noteT at hp
     by_cases ht:rightA p.1 = true ∧ formA p.1 = p.1
     ·rw [if_pos ht] at hp
      exact ⟨hf,ht.1,ht.2,hp⟩
     ·rw [if_neg ht] at hp
      exact absurd hp.symm h0
    ·rw [if_neg hp] at ha;cases ha
  ·unfold parseP
   rw [← hn,note_backP hr hf ht,Option.bind_some];have e:noteT a = noteA a:=by unfold noteT;rw [if_pos ⟨hr,ht⟩]
   rw [if_pos e]
open Go.Shelf Go.RowKit Go.Lib Go.Proofs
variable {P : Program} {ρ : Ren}
theorem strA (a t:List UInt8) (x:UInt8) {i:Nat} (h:i < (⟨(a ++ x :: t).toArray⟩:ByteArray).size):(⟨(a ++ x :: t).toArray⟩:ByteArray)[i]'h = (a ++ x :: t)[i]'(by simpa [ByteArray.size] using h):=by
 show (⟨(a ++ x :: t).toArray⟩:ByteArray).data[i] = _;simp
theorem make_not (L:Lays.n227 P ρ) (hv116:∀ w,(zeroValue (ρ.t 116)).run P w = .ok (.agg (Array.replicate 256 (.bool false))) w) (hi116:(P.info? (ρ.t 116)).map (·.size) = some 256) (a t:List UInt8) (x:UInt8) (w:World)
  (hs:(⟨(a ++ x :: t).toArray⟩:ByteArray).size < 4294967281) (ha:∀ b ∈ a,b.toNat < 128) (hx:128 ≤ x.toNat) :
  Calls P (ρ.f 227) #[.string ⟨(a ++ x :: t).toArray⟩] w fun e w' => e = .returned (.tuple #[.agg (Lib.setCells a),.bool false]) ∧ w' = w.alloc (.cells (Lib.setCells a) (ρ.t 116)):=by
 obtain ⟨S,hS⟩:∃ S:ByteArray,(⟨(a ++ x :: t).toArray⟩:ByteArray) = S:=⟨_,rfl⟩;have hSZ:S.size = a.length + (t.length + 1):=by rw [← hS];simp [ByteArray.size]
 have HAT:Hid (∀ i (h:i < S.size),S[i]'h = (a ++ x :: t)[i]'(by rw [List.length_append,List.length_cons];omega)):=Hh (by
  subst hS
  exact fun i h => strA a t x h)
 have HA:=Hh ha;rw [hS] at hs ⊢;clear hS ha;have t3:=L.t3;have a3:=L.a3;have z3:=L.z3;have v3:=L.v3
 have t4:=L.t4;have a4:=L.a4;have z4:=L.z4;have v4:=L.v4
 have t5:=L.t5;have a5:=L.a5;have z5:=L.z5;have v5:=L.v5
 have t9:=L.t9;have a9:=L.a9;have z9:=L.z9;have v9:=L.v9
 have t116:=L.t116
 go_enter L.f227,Body.n227_ntmps ρ
 go_wp2;rw [← Lib.setCells_nil]
 go_loopg [4] a.length (fun g s4 wx => ∃ i:Nat,i + g = a.length ∧ s4 = .int .i64 i ∧ wx = w.alloc (.cells (Lib.setCells (a.take i)) (ρ.t 116)))
 case atStart => exact ⟨0,by omega,rfl,rfl⟩
 case round =>
  obtain ⟨i,hig,rfl,rfl⟩:=hrel;have hi:i < S.size:=by omega
  have hiz:(i:Int) < (S.size:Int):=by omega
  obtain ⟨y,hy⟩:∃ y:UInt8,S[i]'hi = y:=⟨_,rfl⟩;have HY:=Hh ((HAT.out i hi).symm.trans hy)
  cases gk with
  | zero =>
   obtain rfl:i = a.length:=by omega
   have hyx:y = x:=by have:=HY.out;simpa using this.symm
   subst hyx;have hy128:((128:Int) ≤ (y.toNat:Int)):=by omega
   rw [show a.take a.length = a from List.take_of_length_le (Nat.le_refl _)];have hld:=run_loadVar_new (P:=P) w (ρ.t 116) (Lib.setCells a) 256 (ρ.t 4) L.t116 (by rw [Lib.setCells_size];exact hi116)
   have hsz:=Lib.setCells_size a;have hlc:=run_loadCellsFrom_new (P:=P) w (ρ.t 116) (Lib.setCells a) 256 hsz;have hsc:=run_storeCells_new (P:=P) w (ρ.t 116) (Lib.setCells a) (Lib.setCells a) (by rw [hsz];exact hi116) rfl (Lib.setCells_one _)
   go_wp2;simp only [L.a116,L.z116,Result.andThen,↓reduceIte,hlc];rw [Oper.upon_value];go_wp2;simp only [L.z116,Result.andThen,↓reduceIte,hsc];rw [Oper.upon_skip];go_wp2
   (try simp only [Exit.inBlock,Exit.then])
   refine bodyPost_ret (v:=.tuple #[.agg (Lib.setCells a),.bool false]) ?_ rfl ⟨rfl,rfl⟩;rw [results_cell_tmp rfl];simp [asAddr,Result.andThen,hld]
  | succ g =>
   have hia:i < a.length:=by omega
   have hya:a[i]'hia = y:=by have:=HY.out;rw [List.getElem_append_left hia] at this;exact this
   have hy0:y.toNat < 128:=HA.out y (hya ▸ List.getElem_mem hia);have hy128:¬ ((128:Int) ≤ (y.toNat:Int)):=by omega
   have hy256:(y.toNat:Int) < 256:=by omega
   have hcell:=Lib.setCells_at (a.take i) y;have Hy:Hid (a[i]? = some y):=Hh (by rw [List.getElem?_eq_getElem hia,hya])
   clear hya;go_wp2;go_roundg g
   case measure => omega
   case rel => exact ⟨i + 1,by omega,by first | rfl | simp,by rw [List.take_add_one,Hy.out];simp only [Option.toList];rw [Lib.setCells_snoc]⟩
theorem left_not (L:Lays.n161 P ρ) (hv116:∀ w,(zeroValue (ρ.t 116)).run P w = .ok (.agg (Array.replicate 256 (.bool false))) w) (hi116:(P.info? (ρ.t 116)).map (·.size) = some 256) (s:ByteArray) (a t:List UInt8) (x:UInt8) (w:World) (R:ByteArray)
  (hs:(⟨(a ++ x :: t).toArray⟩:ByteArray).size < 4294967281) (h2:2 ≤ (⟨(a ++ x :: t).toArray⟩:ByteArray).size) (h0:0 < s.size) (ha:∀ b ∈ a,b.toNat < 128) (hx:128 ≤ x.toNat)
  (hT:∀ W,Grow w W → Calls P (ρ.f 235) #[.string s,.string ⟨(a ++ x :: t).toArray⟩] W fun e w' => e = .returned (.string R) ∧ Grow W w') :
  Calls P (ρ.f 161) #[.string s,.string ⟨(a ++ x :: t).toArray⟩] w fun e w' => e = .returned (.string R) ∧ Grow w w':=by
 have hM:=make_not (P:=P) (ρ:=ρ) { L with } hv116 hi116 a t x w hs ha hx
 obtain ⟨S,hS⟩:∃ S:ByteArray,(⟨(a ++ x :: t).toArray⟩:ByteArray) = S:=⟨_,rfl⟩;rw [hS] at hM hT hs h2 ⊢;have hemp:S.toList.isEmpty = false:=by
  rw [Lib.toList_data]
  cases h:S.data.toList with
  | nil => have:=Lib.size_eq S;rw [h,List.length_nil] at this;omega
  | cons _ _ => rfl
 have hemps:s.toList.isEmpty = false:=by
  rw [Lib.toList_data]
  cases h:s.data.toList with
  | nil => have:=Lib.size_eq s;rw [h,List.length_nil] at this;omega
  | cons _ _ => rfl
 have hn1:((S.size:Int) == 1) = false:=beq_eq_false_iff_ne.2 (by omega)
 have hsc:(storeCells ⟨w.heap.size + 1,0,none⟩ (Lib.setCells a).toList 0).run P ((w.alloc (.cells (Lib.setCells a) (ρ.t 116))).alloc (.cells (Array.replicate 256 (.bool false)) (ρ.t 116))) = .ok () ((w.alloc (.cells (Lib.setCells a) (ρ.t 116))).alloc (.cells (Lib.setCells a) (ρ.t 116))):=by
  have:=run_storeCells_new (P:=P) (w.alloc (.cells (Lib.setCells a) (ρ.t 116))) (ρ.t 116) (Array.replicate 256 (.bool false)) (Lib.setCells a) (by rw [Lib.setCells_size];exact hi116) (by rw [Lib.setCells_size,Array.size_replicate]) (Lib.setCells_one _)
  simpa using this
 have hG:Grow w ((w.alloc (.cells (Lib.setCells a) (ρ.t 116))).alloc (.cells (Lib.setCells a) (ρ.t 116))):=(grow_new w _).trans (grow_new _ _);have hT1:=hT _ hG;have HG:=Hh hG;clear hT hS hs h2 ha hx hG;have mixed:=L.mixed;have t0:=L.t0;have a0:=L.a0;have z0:=L.z0;have v0:=L.v0;have t3:=L.t3;have a3:=L.a3;have z3:=L.z3;have v3:=L.v3;have t4:=L.t4;have a4:=L.a4;have z4:=L.z4;have v4:=L.v4;have t5:=L.t5;have a5:=L.a5;have z5:=L.z5;have v5:=L.v5;have t9:=L.t9;have a9:=L.a9;have z9:=L.z9;have v9:=L.v9
 have e227:∀ args w,(callFunc (ρ.f 227) args).run P w = .ok (.enter (ρ.f 227) args) w:=enters_of L.f227 (by kernel_rfl) rfl
 have e235:∀ args w,(callFunc (ρ.f 235) args).run P w = .ok (.enter (ρ.f 235) args) w:=enters_of L.f235 (by kernel_rfl) rfl
 go_enter L.f161,Body.n161_ntmps ρ
 go_wp2_with (go_at_fn (ρ.f 227);refine hM.mono ?_;rintro e w' ⟨rfl,hw⟩;rw [hw])
 simp only [L.z116,Result.andThen,Lib.setCells_size,↓reduceIte,hsc];rw [Oper.upon_skip];clear hM hsc;go_wp2_with (go_at_fn (ρ.f 235);refine hT1.mono ?_;rintro e w' ⟨rfl,hw⟩)
 go_ret;exact ⟨rfl,HG.out.trans hw⟩
end Go.Proofs.YteoogioanjkacaaGreatDoor
namespace Go.Proofs.YteoogioanjkacaaGreatDoor.Quo
open Go.RowKit Go.Lib
structure Going (k:Nat) (l:List UInt8) (pos:Nat) (wr:World):Prop where
 at_:wr.heap[k]? = some (.stringIter ⟨l.toArray⟩ pos)
theorem strS (l:List UInt8):(⟨l.toArray⟩:ByteArray).size = l.length:=by simp [ByteArray.size]
theorem going_new (w:World) (l:List UInt8):Going w.heap.size l 0 (w.iter ⟨l.toArray⟩ 0):=⟨World.iter_heap _ _ _⟩
theorem Going.next {k pos:Nat} {l:List UInt8} {wr:World} (h:Going k l pos wr) (hp:pos < l.length) (ty:TypeId) :
  (Instr.next (.pointer (some ⟨k,0,none⟩)) true ty).run Tryz.prog wr =
   .ok (.tuple #[.bool true,.int .i64 pos,.int .i32 ((runeD (l.drop pos)).1:Nat)]) (wr.iterAt k ⟨l.toArray⟩ (pos + (runeD (l.drop pos)).2)):=by
 have hp':pos < (⟨l.toArray⟩:ByteArray).size:=by rw [strS];exact hp
 have hd:=decode_at_rune _ pos hp';rw [run_next_any_at (P:=Tryz.prog) wr k _ pos ty h.at_ hp',hd]
theorem Going.stop {k pos:Nat} {l:List UInt8} {wr:World} (h:Going k l pos wr) (hp:¬ pos < l.length) (ty:TypeId) :
  (Instr.next (.pointer (some ⟨k,0,none⟩)) true ty).run Tryz.prog wr = .ok (.tuple #[.bool false]) wr :=
 run_next_end_at (P:=Tryz.prog) wr k _ pos ty h.at_ (by rw [strS];exact hp)
theorem Going.step {k pos:Nat} {l:List UInt8} {wr:World} (h:Going k l pos wr) (q:Nat):Going k l q (wr.iterAt k ⟨l.toArray⟩ q):=⟨iterAt_heap wr k _ pos q h.at_⟩
def CUT:List UInt8:=[48,49,50,51,52,53,54,55,56,57,69,194,175,32]
def numC (c:Nat):Bool:=decide (48 ≤ c ∧ c ≤ 57) || (c == 69 || (c == 175 || c == 32))
def okPos (p:Nat):Prop:=p ≤ 11 ∨ p = 13 ∨ p = 14
theorem cut_next {p:Nat} (h:okPos p) (hp:p < 14):(runeD (CUT.drop p)).1 ≠ 65533 ∧ okPos (p + (runeD (CUT.drop p)).2) ∧ 1 ≤ (runeD (CUT.drop p)).2 ∧ p + (runeD (CUT.drop p)).2 ≤ 14:=by
 unfold okPos at h ⊢;have hc:p = 0 ∨ p = 1 ∨ p = 2 ∨ p = 3 ∨ p = 4 ∨ p = 5 ∨ p = 6 ∨ p = 7 ∨ p = 8 ∨ p = 9 ∨ p = 10 ∨ p = 11 ∨ p = 13:=by omega
 rcases hc with rfl | rfl | rfl | rfl | rfl | rfl | rfl | rfl | rfl | rfl | rfl | rfl | rfl <;> decide
theorem below_iter {w wr:World} {B k:Nat} (h:Below B w wr) (hk:B ≤ k) (s:ByteArray) (q:Nat):Below B w (wr.iterAt k s q) :=
 h.trans ⟨rfl,rfl,rfl,by simp [World.iterAt],fun j hj => iterAt_other wr k j s q (by omega)⟩
theorem index_bad (w:World):Calls Tryz.prog 178 #[.string ⟨CUT.toArray⟩,.int .i32 65533] w fun e w' => e = .returned (.int .i64 (-1)) ∧ Grow w w':=by
 have hG0:=Hh (show Grow w (w.iter ⟨CUT.toArray⟩ 0) from grow_new w _);have hO0:=Hh (going_new w CUT);obtain ⟨C,hC⟩:∃ C,CUT = C:=⟨_,rfl⟩;have HC:=Hh hC;rw [hC] at hG0 hO0 ⊢;clear hC
 go_enter Tryz.func178,Tryz.ntmps178
 go_wp2
 go_loopg [4] 14 (fun g _ wr => ∃ pos:Nat,pos ≤ 14 ∧ g = 14 - pos ∧ okPos pos ∧ Going w.heap.size C pos wr ∧ Grow w wr)
 case atStart => exact ⟨0,Nat.zero_le _,rfl,.inl (by omega),hO0.out,hG0.out⟩
 case round =>
  obtain ⟨pos,hle,rfl,hok,hgo,hgr⟩:=hrel;have HG:=Hh hgr;have hCl:C.length = 14:=by rw [← HC.out];rfl
  by_cases hp:pos < 14
  ·obtain ⟨k1,k2,k3,k4⟩:=cut_next hok hp
   rw [HC.out] at k1 k2 k3 k4;have hnx:=fun ty => hgo.next (by rw [hCl];exact hp) ty
   have HG1:=Hh (show Grow w (wr.iterAt w.heap.size ⟨C.toArray⟩ (pos + (runeD (C.drop pos)).2)) from below_iter HG.out (Nat.le_refl _) _ _);have HO1:=Hh (hgo.step (pos + (runeD (C.drop pos)).2));obtain ⟨c,hc⟩:∃ c,(runeD (C.drop pos)).1 = c:=⟨_,rfl⟩;obtain ⟨n,hn⟩:∃ n,(runeD (C.drop pos)).2 = n:=⟨_,rfl⟩;rw [hc,hn] at hnx;rw [hn] at HG1 HO1 k2 k3 k4;rw [hc] at k1;have HK:=Hh k2;generalize wr.iterAt w.heap.size ⟨C.toArray⟩ (pos + n) = w1 at hnx HG1 HO1;have hcb:(((c:Nat):Int) == 65533) = false:=by rw [beq_eq_false_iff_ne];omega
   clear hgo hgr hc hn k1 k2 hok;go_wp2;go_roundg (14 - (pos + n))
   case rel => exact ⟨pos + n,k4,rfl,HK.out,HO1.out,HG1.out⟩
   case measure => omega
  ·obtain rfl:pos = 14:=by omega
   have hnx:=fun ty => hgo.stop (by rw [hCl];omega) ty
   clear hgo hgr hok;go_wp2;go_ret;exact ⟨rfl,HG.out⟩
theorem last_two {c:Nat} (h:isSign c = true) (h1:128 ≤ c):∃ (m:Nat) (z b:UInt8),(bytesD c).length = m + 1 ∧ 1 ≤ m ∧ m ≤ 3 ∧ (bytesD c)[m]? = some b ∧ (bytesD c)[m - 1]? = some z ∧ 128 ≤ b.toNat ∧ b.toNat < 192 ∧ ((z = 194 ∧ b = 175) ↔ c = 175) ∧ (c = 175 → m = 1):=by
 have hs:=isSign_iff.1 h;have hn:∀ n,n < 256 → (UInt8.ofNat n).toNat = n:=fun n hn => u8_nat hn;have h194:∀ n,n < 256 → (UInt8.ofNat n = 194 ↔ n = 194):=fun n h => by
  constructor
  ·intro e;have:=congrArg UInt8.toNat e;rw [hn n h] at this;exact this
  ·rintro rfl;rfl
 have h175:∀ n,n < 256 → (UInt8.ofNat n = 175 ↔ n = 175):=fun n h => by
  constructor
  ·intro e;have:=congrArg UInt8.toNat e;rw [hn n h] at this;exact this
  ·rintro rfl;rfl
 unfold bytesD;rw [if_pos h,if_neg (by omega)]
 split
 ·exact ⟨1,UInt8.ofNat (192 + c / 64),UInt8.ofNat (128 + c % 64),rfl,by omega,by omega,rfl,rfl,by rw [hn _ (by omega)];omega,by rw [hn _ (by omega)];omega,by rw [h194 _ (by omega),h175 _ (by omega)];omega,fun _ => rfl⟩
 ·split
  ·exact ⟨2,UInt8.ofNat (128 + c / 64 % 64),UInt8.ofNat (128 + c % 64),rfl,by omega,by omega,rfl,rfl,by rw [hn _ (by omega)];omega,by rw [hn _ (by omega)];omega,by rw [h194 _ (by omega),h175 _ (by omega)];omega,fun _ => by omega⟩
  ·exact ⟨3,UInt8.ofNat (128 + c / 64 % 64),UInt8.ofNat (128 + c % 64),rfl,by omega,by omega,rfl,rfl,by rw [hn _ (by omega)];omega,by rw [hn _ (by omega)];omega,by rw [h194 _ (by omega),h175 _ (by omega)];omega,fun _ => by omega⟩
theorem idx_none {b:UInt8}:∀ {l:List UInt8},(∀ x ∈ l,x ≠ b) → indexByte l b = -1
 | [],_ => rfl
 | x :: l,h => by
  have h1:(x == b) = false:=beq_eq_false_iff_ne.2 (h x (by simp))
  show (if (x == b) = true then (0:Int) else if (indexByte l b == -1) = true then -1 else indexByte l b + 1) = -1
  rw [h1,idx_none (fun y hy => h y (by simp [hy]))]
  rfl
theorem cut_idx (m:Nat) (h1:1 ≤ m) (h3:m ≤ 3) {b:UInt8} (h:128 ≤ b.toNat) (hb:b.toNat < 192):indexByte (CUT.drop (m + 1)) b = if b = 175 then ((11 - m:Nat):Int) else -1:=by
 by_cases hb2:b = 175
 ·subst hb2
  have:m = 1 ∨ m = 2 ∨ m = 3:=by omega
  rcases this with rfl | rfl | rfl <;> decide
 ·rw [if_neg hb2]
  refine idx_none fun x hx e => ?_;have hx2:x ∈ CUT:=List.mem_of_mem_drop hx;subst e;simp only [CUT,List.mem_cons,List.not_mem_nil,or_false] at hx2
  rcases hx2 with rfl | rfl | rfl | rfl | rfl | rfl | rfl | rfl | rfl | rfl | rfl | rfl | rfl | rfl <;> first | exact hb2 rfl | (simp at h;done) | (simp at hb;done)
theorem cut_get (m:Nat) (h1:1 ≤ m) (h3:m ≤ 3):CUT[m]? = some (UInt8.ofNat (48 + m)):=by
 have:m = 1 ∨ m = 2 ∨ m = 3:=by omega
 rcases this with rfl | rfl | rfl <;> rfl
open Go.RowKit Go.Lib
def FR (S R:ByteArray) (c m m1:Int) (u:Nat → Value):Act:={ tmps:=#[.string S,.int .i32 c,undef,undef,u 4,undef,undef,.string R,.int .i64 m,.int .i64 12,.int .i64 0,u 11,u 12,undef,undef,undef,undef,.int .i32 c,.string R,.string R,.int .i64 m1,.int .i64 m,.int .i64 m,u 23,u 24,u 25,u 26,u 27,u 28,u 29,u 30,u 31,u 32,u 33,u 34,u 35,u 36,u 37,u 38,u 39,u 40,u 41,u 42,u 43,u 44,u 45,u 46,u 47,u 48,u 49,u 50,u 51,u 52,u 53,u 54,u 55,u 56,u 57,u 58,u 59,u 60,u 61,u 62,u 63,u 64,u 65,u 66,u 67,u 68,u 69,u 70,u 71,u 72,u 73,u 74,u 75,u 76,u 77,u 78,u 79,u 80,u 81,u 82,u 83,u 84,u 85,u 86,u 87,u 88,u 89,u 90,u 91,u 92,u 93,u 94,u 95,u 96,u 97,u 98,undef,undef,undef,undef,undef,undef,undef,undef,undef,undef,undef,undef,undef,undef,undef,undef,undef,undef,undef,undef,undef,undef,undef,undef,undef,undef,undef,undef,undef,undef,undef,undef,undef,undef,undef,undef,undef,undef,undef,undef,undef,undef,undef,undef,undef,undef,undef,undef,undef,undef,undef,undef,undef,undef,undef,undef,undef,undef,undef,undef,undef,.bool false,.int .i32 c,.bool true,.bool true,.int .i32 c,.bool false,.bool false,undef,undef,undef,undef,.bool false,.int .i32 c,.bool false,undef,undef,undef,undef,undef,undef,undef,undef,undef,.bool false,.int .i32 c,.bool true,.bool false],defers:=[] }
def JP (S R:ByteArray) (c m m1:Int) (w2:World) (a':Act) (w':World):Prop:=Grow w2 w' ∧ ∃ u:Nat → Value,a' = FR S R c m m1 u
theorem jp_of {S R:ByteArray} {c m m1:Int} {w2 w':World} {a':Act} (hg:Grow w2 w') (h:a' = FR S R c m m1 (fun k => a'.tmps.getD k undef)):JP S R c m m1 w2 a' w':=⟨hg,_,h⟩
theorem cutover (w:World):Calls Tryz.prog 176 #[.int .i64 13] w fun e w' => e = .returned (.int .i64 3) ∧ w' = w:=by
 go_enter Tryz.func176,Tryz.ntmps176
 go_wp2;go_ret;exact ⟨rfl,rfl⟩
theorem index_far (c:Nat) (hc:isSign c = true) (h1:128 ≤ c) (h2:c ≠ 65533) (h3:c ≠ 175) (w:World):Calls Tryz.prog 178 #[.string ⟨CUT.toArray⟩,.int .i32 c] w fun e w' => e = .returned (.int .i64 (-1)) ∧ Grow w w':=by
 obtain ⟨m,z,b,hl,m1,m3,hb,hz,b1,b2,hzb,_⟩:=last_two hc h1;have henc:=enc_bytes hc;have hi0:=index_str hb;have hi1:=index_str hz;have hc0:=index_str (cut_get m m1 m3);have hV:=Hh (fun W => Tryz.utf8_ValidRune (c:Int) W);have hX:=Hh (cut_idx m m1 m3 b1 b2);have hn:=Hh (fun e => h3 (hzb.1 e));have hI:=Hh (fun (s:ByteArray) W => Tryz.strings_IndexByte s (b.toNat:Int) W);have hcl:((c:Nat):Int) ≤ 1114111:=by have:=isSign_iff.1 hc;omega
 have hci:¬ ((c:Nat):Int) < 128:=by omega
 have hc65:(((c:Nat):Int) == 65533) = false:=by rw [beq_eq_false_iff_ne];omega
 have hvr:Lib.validRune ((c:Nat):Int) = true:=by have:=isSign_iff.1 hc;unfold Lib.validRune;simp;omega
 obtain ⟨R,hR⟩:∃ R,(⟨(bytesD c).toArray⟩:ByteArray) = R:=⟨_,rfl⟩;have hRs:R.size = m + 1:=by rw [← hR,strS,hl]
 have hsl:=slice_from CUT (m + 1) (by show m + 1 ≤ 14;omega)
 obtain ⟨D,hD⟩:∃ D,CUT.drop (m + 1) = D:=⟨_,rfl⟩;obtain ⟨S,hS⟩:∃ S,(⟨CUT.toArray⟩:ByteArray) = S:=⟨_,rfl⟩;have hSs:S.size = 14:=by rw [← hS];rfl
 rw [hR] at hi0 hi1 henc;rw [hD] at hsl hX;rw [hS] at hc0 hsl ⊢;have hI1:=Hh (fun W => hI.out ⟨D.toArray⟩ W);simp only [Int.toNat_natCast] at hI1;have hbb:b.toNat.toUInt8 = b:=u8_eq rfl;rw [hbb,hX.out] at hI1;have hdig:(UInt8.ofNat (48 + m)).toNat = 48 + m:=u8_nat (by omega)
 rw [hdig] at hc0;have hd1:((((48 + m:Nat):Int)) == ((b.toNat:Nat):Int)) = false:=by rw [beq_eq_false_iff_ne];omega
 have hS1:=hS;clear hR hS hD hX hI hb hz hl hdig hbb hzb;obtain ⟨β,hβ⟩:∃ β:Nat,b.toNat = β:=⟨_,rfl⟩;rw [hβ] at hi0 hI1 hd1 b1 b2;have hm:m = 1 ∨ m = 2 ∨ m = 3:=by omega
 by_cases hb175:b = 175
 ·have hzn:z ≠ 194:=fun e => hn.out ⟨e,hb175⟩
  rw [if_pos hb175] at hI1;have hβ:β = 175:=by rw [← hβ,hb175];rfl
  subst hβ;obtain ⟨ζ,hζ⟩:∃ ζ:Nat,z.toNat = ζ:=⟨_,rfl⟩;have hζn:ζ ≠ 194:=fun e => hzn (by rw [← u8_eq (b:=z) (n:=194) (by rw [hζ,e])];rfl)
  rw [hζ] at hi1;clear hn hzn hb175 hζ;have h11:∀ W,(Instr.index 9 (.string S) (.int .i64 11)).run Tryz.prog W = .ok (.int .u8 194) W:=by subst hS1;exact index_str (l:=CUT) (i:=11) rfl
  have h13:∀ W,(Instr.index 9 (.string S) (.int .i64 13)).run Tryz.prog W = .ok (.int .u8 32) W:=by subst hS1;exact index_str (l:=CUT) (i:=13) rfl
  have h14:∀ W,(Instr.slice 9 (.string S) (some (.int .i64 14)) none none).run Tryz.prog W = .ok (.string ⟨#[]⟩) W:=by subst hS1;exact slice_from CUT 14 (Nat.le_refl _)
  have hI2:=Hh (fun W => Tryz.strings_IndexByte ⟨#[]⟩ 175 W);have hI3:Hid (∀ W,Calls Tryz.prog 195 #[.string ⟨#[]⟩,.int .u8 175] W fun e w' => e = .returned (.int .i64 (-1)) ∧ w' = W):=Hh (fun W => hI2.out W);have hCO:=Hh (fun W => cutover W);clear hI2 hS1
  rcases hm with rfl | rfl | rfl
  ·have hi0:∀ W,(Instr.index 9 (.string R) (.int .i64 1)).run Tryz.prog W = .ok (.int .u8 175) W:=hi0
   have hi1:∀ W,(Instr.index 9 (.string R) (.int .i64 0)).run Tryz.prog W = .ok (.int .u8 ((ζ:Nat):Int)) W:=hi1;have hc0:∀ W,(Instr.index 9 (.string S) (.int .i64 1)).run Tryz.prog W = .ok (.int .u8 49) W:=hc0;have hsl:∀ W,(Instr.slice 9 (.string S) (some (.int .i64 2)) none none).run Tryz.prog W = .ok (.string ⟨D.toArray⟩) W:=hsl;have hI1:Hid (∀ W,Calls Tryz.prog 195 #[.string ⟨D.toArray⟩,.int .u8 175] W fun e w' => e = .returned (.int .i64 10) ∧ w' = W):=Hh (fun W => hI1.out W);have hRs:R.size = 2:=hRs;have hz1:((194:Int) != ((ζ:Nat):Int)) = true:=by rw [bne_iff_ne];omega
   go_enter Tryz.func178,Tryz.ntmps178
   go_wp2_with fail;refine (hV.out _).mono ?_;rintro e w2 ⟨rfl,rfl⟩;simp only [hvr];clear hV;have hcv:∀ W,(convert 21 9 (.int .i32 (c:Int))).run Tryz.prog W = .ok (.string R) W:=fun W => by rw [run_convert_int_string W 21 9 .i32 (c:Int) (by kernel_rfl) (by kernel_rfl),henc]
   clear henc;go_wp2
   go_step3
   go_wp2_with fail;clear hcv hvr hc65 b1 b2 hcl hci h1 h2 h3 hc m1 m3 hd1
   go_loopg [9,10] 2 (fun g s9 s10 wr => ((s9 = .int .i64 1 ∧ s10 = .int .i64 0 ∧ g = 2) ∨ (s9 = .int .i64 13 ∧ s10 = .int .i64 1 ∧ g = 1)) ∧ Grow w2 wr)
   case atStart => exact ⟨.inl ⟨rfl,rfl,rfl⟩,Grow.refl _⟩
   case round =>
    obtain ⟨hrel,hgr⟩:=hrel;have HG:=Hh hgr;clear hgr
    rcases hrel with ⟨rfl,rfl,rfl⟩ | ⟨rfl,rfl,rfl⟩
    ·go_wp2
     refine wp_scope_jumps 0 (JP S R c 1 2 w2) (fun _ _ => 0) rfl ?_ ?_
     rotate_left
     ·rintro a' w' ⟨hg,u,rfl⟩
      have hG5:=Hh hg;clear hg;unfold FR;go_wp2;simp only [Exit.jump,Exit.then,Exit.inBlock];go_wp2;go_roundg 1
      case rel => exact ⟨.inr ⟨rfl,rfl,rfl⟩,hG5.out⟩
      case measure => omega
     go_wp2
     go_quiet (fail)
     go_wp2;have hG2:=Hh (Grow.drewN HG.out nq);generalize wr.drewN nq = wr2 at hG2;clear hc0
     go_quiet (refine Calls.quiet_of_same (hI1.out _))
     go_wp2;have hG3:=Hh (Grow.drewN hG2.out nq);generalize wr2.drewN nq = wr3 at hG3;clear hsl hI1 hi0
     go_loopg [12] 1 (fun g s12 wx => s12 = .int .i64 1 ∧ Grow w2 wx)
     case atStart => exact ⟨rfl,hG3.out⟩
     case round =>
      obtain ⟨rfl,hgr⟩:=hrel;have hG4:=Hh hgr;clear hgr;go_wp2
      go_quiet (fail)
      go_wp2
      go_step3
      simp only [Exit.inBlock,Exit.then,Exit.jump];exact ⟨trivial,jp_of (Grow.drewN hG4.out _) rfl⟩
    ·go_wp2
     go_step3
     go_wp2
     go_quiet (fail)
     go_wp2;have hG2:=Hh (Grow.drewN HG.out nq);generalize wr.drewN nq = wr2 at hG2
     go_quiet (refine Calls.quiet_of_same (hI3.out _))
     go_wp2;simp only [Exit.noGoto_ret,Exit.then,Exit.inBlock];go_ret;exact ⟨rfl,Grow.drewN hG2.out _⟩
  ·have hi0:∀ W,(Instr.index 9 (.string R) (.int .i64 2)).run Tryz.prog W = .ok (.int .u8 175) W:=hi0
   have hi1:∀ W,(Instr.index 9 (.string R) (.int .i64 1)).run Tryz.prog W = .ok (.int .u8 ((ζ:Nat):Int)) W:=hi1;have hc0:∀ W,(Instr.index 9 (.string S) (.int .i64 2)).run Tryz.prog W = .ok (.int .u8 50) W:=hc0;have hsl:∀ W,(Instr.slice 9 (.string S) (some (.int .i64 3)) none none).run Tryz.prog W = .ok (.string ⟨D.toArray⟩) W:=hsl;have hI1:Hid (∀ W,Calls Tryz.prog 195 #[.string ⟨D.toArray⟩,.int .u8 175] W fun e w' => e = .returned (.int .i64 9) ∧ w' = W):=Hh (fun W => hI1.out W);have hRs:R.size = 3:=hRs;have hz1:((194:Int) != ((ζ:Nat):Int)) = true:=by rw [bne_iff_ne];omega
   go_enter Tryz.func178,Tryz.ntmps178
   go_wp2_with fail;refine (hV.out _).mono ?_;rintro e w2 ⟨rfl,rfl⟩;simp only [hvr];clear hV;have hcv:∀ W,(convert 21 9 (.int .i32 (c:Int))).run Tryz.prog W = .ok (.string R) W:=fun W => by rw [run_convert_int_string W 21 9 .i32 (c:Int) (by kernel_rfl) (by kernel_rfl),henc]
   clear henc;go_wp2
   go_step3
   go_wp2_with fail;clear hcv hvr hc65 b1 b2 hcl hci h1 h2 h3 hc m1 m3 hd1
   go_loopg [9,10] 2 (fun g s9 s10 wr => ((s9 = .int .i64 2 ∧ s10 = .int .i64 0 ∧ g = 2) ∨ (s9 = .int .i64 13 ∧ s10 = .int .i64 1 ∧ g = 1)) ∧ Grow w2 wr)
   case atStart => exact ⟨.inl ⟨rfl,rfl,rfl⟩,Grow.refl _⟩
   case round =>
    obtain ⟨hrel,hgr⟩:=hrel;have HG:=Hh hgr;clear hgr
    rcases hrel with ⟨rfl,rfl,rfl⟩ | ⟨rfl,rfl,rfl⟩
    ·go_wp2
     refine wp_scope_jumps 0 (JP S R c 2 3 w2) (fun _ _ => 0) rfl ?_ ?_
     rotate_left
     ·rintro a' w' ⟨hg,u,rfl⟩
      have hG5:=Hh hg;clear hg;unfold FR;go_wp2;simp only [Exit.jump,Exit.then,Exit.inBlock];go_wp2;go_roundg 1
      case rel => exact ⟨.inr ⟨rfl,rfl,rfl⟩,hG5.out⟩
      case measure => omega
     go_wp2
     go_quiet (fail)
     go_wp2;have hG2:=Hh (Grow.drewN HG.out nq);generalize wr.drewN nq = wr2 at hG2;clear hc0
     go_quiet (refine Calls.quiet_of_same (hI1.out _))
     go_wp2;have hG3:=Hh (Grow.drewN hG2.out nq);generalize wr2.drewN nq = wr3 at hG3;clear hsl hI1 hi0
     go_loopg [12] 1 (fun g s12 wx => s12 = .int .i64 1 ∧ Grow w2 wx)
     case atStart => exact ⟨rfl,hG3.out⟩
     case round =>
      obtain ⟨rfl,hgr⟩:=hrel;have hG4:=Hh hgr;clear hgr;go_wp2
      go_quiet (fail)
      go_wp2
      go_step3
      simp only [Exit.inBlock,Exit.then,Exit.jump];exact ⟨trivial,jp_of (Grow.drewN hG4.out _) rfl⟩
    ·go_wp2
     go_step3
     go_wp2
     go_quiet (fail)
     go_wp2;have hG2:=Hh (Grow.drewN HG.out nq);generalize wr.drewN nq = wr2 at hG2
     go_quiet (refine Calls.quiet_of_same (hI3.out _))
     go_wp2;simp only [Exit.noGoto_ret,Exit.then,Exit.inBlock];go_ret;exact ⟨rfl,Grow.drewN hG2.out _⟩
  ·have hi0:∀ W,(Instr.index 9 (.string R) (.int .i64 3)).run Tryz.prog W = .ok (.int .u8 175) W:=hi0
   have hi1:∀ W,(Instr.index 9 (.string R) (.int .i64 2)).run Tryz.prog W = .ok (.int .u8 ((ζ:Nat):Int)) W:=hi1;have hc0:∀ W,(Instr.index 9 (.string S) (.int .i64 3)).run Tryz.prog W = .ok (.int .u8 51) W:=hc0;have hsl:∀ W,(Instr.slice 9 (.string S) (some (.int .i64 4)) none none).run Tryz.prog W = .ok (.string ⟨D.toArray⟩) W:=hsl;have hI1:Hid (∀ W,Calls Tryz.prog 195 #[.string ⟨D.toArray⟩,.int .u8 175] W fun e w' => e = .returned (.int .i64 8) ∧ w' = W):=Hh (fun W => hI1.out W);have hRs:R.size = 4:=hRs;have hz1:((194:Int) != ((ζ:Nat):Int)) = true:=by rw [bne_iff_ne];omega
   go_enter Tryz.func178,Tryz.ntmps178
   go_wp2_with fail;refine (hV.out _).mono ?_;rintro e w2 ⟨rfl,rfl⟩;simp only [hvr];clear hV;have hcv:∀ W,(convert 21 9 (.int .i32 (c:Int))).run Tryz.prog W = .ok (.string R) W:=fun W => by rw [run_convert_int_string W 21 9 .i32 (c:Int) (by kernel_rfl) (by kernel_rfl),henc]
   clear henc;go_wp2
   go_step3
   go_wp2_with fail;clear hcv hvr hc65 b1 b2 hcl hci h1 h2 h3 hc m1 m3 hd1
   go_loopg [9,10] 2 (fun g s9 s10 wr => ((s9 = .int .i64 3 ∧ s10 = .int .i64 0 ∧ g = 2) ∨ (s9 = .int .i64 13 ∧ s10 = .int .i64 1 ∧ g = 1)) ∧ Grow w2 wr)
   case atStart => exact ⟨.inl ⟨rfl,rfl,rfl⟩,Grow.refl _⟩
   case round =>
    obtain ⟨hrel,hgr⟩:=hrel;have HG:=Hh hgr;clear hgr
    rcases hrel with ⟨rfl,rfl,rfl⟩ | ⟨rfl,rfl,rfl⟩
    ·go_wp2
     refine wp_scope_jumps 0 (JP S R c 3 4 w2) (fun _ _ => 0) rfl ?_ ?_
     rotate_left
     ·rintro a' w' ⟨hg,u,rfl⟩
      have hG5:=Hh hg;clear hg;unfold FR;go_wp2;simp only [Exit.jump,Exit.then,Exit.inBlock];go_wp2;go_roundg 1
      case rel => exact ⟨.inr ⟨rfl,rfl,rfl⟩,hG5.out⟩
      case measure => omega
     go_wp2
     go_quiet (fail)
     go_wp2;have hG2:=Hh (Grow.drewN HG.out nq);generalize wr.drewN nq = wr2 at hG2;clear hc0
     go_quiet (refine Calls.quiet_of_same (hI1.out _))
     go_wp2;have hG3:=Hh (Grow.drewN hG2.out nq);generalize wr2.drewN nq = wr3 at hG3;clear hsl hI1 hi0
     go_loopg [12] 1 (fun g s12 wx => s12 = .int .i64 1 ∧ Grow w2 wx)
     case atStart => exact ⟨rfl,hG3.out⟩
     case round =>
      obtain ⟨rfl,hgr⟩:=hrel;have hG4:=Hh hgr;clear hgr;go_wp2
      go_quiet (fail)
      go_wp2
      go_step3
      simp only [Exit.inBlock,Exit.then,Exit.jump];exact ⟨trivial,jp_of (Grow.drewN hG4.out _) rfl⟩
    ·go_wp2
     go_step3
     go_wp2
     go_quiet (fail)
     go_wp2;have hG2:=Hh (Grow.drewN HG.out nq);generalize wr.drewN nq = wr2 at hG2
     go_quiet (refine Calls.quiet_of_same (hI3.out _))
     go_wp2;simp only [Exit.noGoto_ret,Exit.then,Exit.inBlock];go_ret;exact ⟨rfl,Grow.drewN hG2.out _⟩
 ·rw [if_neg hb175] at hI1
  clear hb175 hi1 hn hS1
  rcases hm with rfl | rfl | rfl
  ·have hi0:∀ W,(Instr.index 9 (.string R) (.int .i64 1)).run Tryz.prog W = .ok (.int .u8 ((β:Nat):Int)) W:=hi0
   have hc0:∀ W,(Instr.index 9 (.string S) (.int .i64 1)).run Tryz.prog W = .ok (.int .u8 49) W:=hc0;have hsl:∀ W,(Instr.slice 9 (.string S) (some (.int .i64 2)) none none).run Tryz.prog W = .ok (.string ⟨D.toArray⟩) W:=hsl;have hd1:((49:Int) == ((β:Nat):Int)) = false:=hd1;have hRs:R.size = 2:=hRs;have hd1n:((49:Int) != ((β:Nat):Int)) = true:=by rw [bne_iff_ne];omega
   go_enter Tryz.func178,Tryz.ntmps178
   go_wp2_with fail;refine (hV.out _).mono ?_;rintro e w2 ⟨rfl,rfl⟩;simp only [hvr];clear hV;have hcv:∀ W,(convert 21 9 (.int .i32 (c:Int))).run Tryz.prog W = .ok (.string R) W:=fun W => by rw [run_convert_int_string W 21 9 .i32 (c:Int) (by kernel_rfl) (by kernel_rfl),henc]
   clear henc;go_wp2
   go_step3
   go_wp2_with fail
   go_loopg [9,10] 1 (fun g s9 s10 wr => s9 = .int .i64 1 ∧ s10 = .int .i64 0 ∧ Grow w2 wr)
   case atStart => exact ⟨rfl,rfl,Grow.refl _⟩
   case round =>
    obtain ⟨rfl,rfl,hgr⟩:=hrel;have HG:=Hh hgr;clear hgr;go_wp2
    go_step3
    go_wp2
    go_quiet (fail)
    clear hc0 hcv hvr hc65 hd1 hd1n b1 b2 hβ hcl hci h1 h2 h3 hc m1 m3;go_wp2;have hG2:=Hh (Grow.drewN HG.out nq);generalize wr.drewN nq = wr2 at hG2
    go_quiet (refine Calls.quiet_of_same (hI1.out _))
    go_wp2;simp only [Exit.noGoto_ret,Exit.then,Exit.inBlock];go_ret;exact ⟨rfl,Grow.drewN hG2.out _⟩
  ·have hi0:∀ W,(Instr.index 9 (.string R) (.int .i64 2)).run Tryz.prog W = .ok (.int .u8 ((β:Nat):Int)) W:=hi0
   have hc0:∀ W,(Instr.index 9 (.string S) (.int .i64 2)).run Tryz.prog W = .ok (.int .u8 50) W:=hc0;have hsl:∀ W,(Instr.slice 9 (.string S) (some (.int .i64 3)) none none).run Tryz.prog W = .ok (.string ⟨D.toArray⟩) W:=hsl;have hd1:((50:Int) == ((β:Nat):Int)) = false:=hd1;have hRs:R.size = 3:=hRs;have hd1n:((50:Int) != ((β:Nat):Int)) = true:=by rw [bne_iff_ne];omega
   go_enter Tryz.func178,Tryz.ntmps178
   go_wp2_with fail;refine (hV.out _).mono ?_;rintro e w2 ⟨rfl,rfl⟩;simp only [hvr];clear hV;have hcv:∀ W,(convert 21 9 (.int .i32 (c:Int))).run Tryz.prog W = .ok (.string R) W:=fun W => by rw [run_convert_int_string W 21 9 .i32 (c:Int) (by kernel_rfl) (by kernel_rfl),henc]
   clear henc;go_wp2
   go_step3
   go_wp2_with fail
   go_loopg [9,10] 1 (fun g s9 s10 wr => s9 = .int .i64 2 ∧ s10 = .int .i64 0 ∧ Grow w2 wr)
   case atStart => exact ⟨rfl,rfl,Grow.refl _⟩
   case round =>
    obtain ⟨rfl,rfl,hgr⟩:=hrel;have HG:=Hh hgr;clear hgr;go_wp2
    go_step3
    go_wp2
    go_quiet (fail)
    clear hc0 hcv hvr hc65 hd1 hd1n b1 b2 hβ hcl hci h1 h2 h3 hc m1 m3;go_wp2;have hG2:=Hh (Grow.drewN HG.out nq);generalize wr.drewN nq = wr2 at hG2
    go_quiet (refine Calls.quiet_of_same (hI1.out _))
    go_wp2;simp only [Exit.noGoto_ret,Exit.then,Exit.inBlock];go_ret;exact ⟨rfl,Grow.drewN hG2.out _⟩
  ·have hi0:∀ W,(Instr.index 9 (.string R) (.int .i64 3)).run Tryz.prog W = .ok (.int .u8 ((β:Nat):Int)) W:=hi0
   have hc0:∀ W,(Instr.index 9 (.string S) (.int .i64 3)).run Tryz.prog W = .ok (.int .u8 51) W:=hc0;have hsl:∀ W,(Instr.slice 9 (.string S) (some (.int .i64 4)) none none).run Tryz.prog W = .ok (.string ⟨D.toArray⟩) W:=hsl;have hd1:((51:Int) == ((β:Nat):Int)) = false:=hd1;have hRs:R.size = 4:=hRs;have hd1n:((51:Int) != ((β:Nat):Int)) = true:=by rw [bne_iff_ne];omega
   go_enter Tryz.func178,Tryz.ntmps178
   go_wp2_with fail;refine (hV.out _).mono ?_;rintro e w2 ⟨rfl,rfl⟩;simp only [hvr];clear hV;have hcv:∀ W,(convert 21 9 (.int .i32 (c:Int))).run Tryz.prog W = .ok (.string R) W:=fun W => by rw [run_convert_int_string W 21 9 .i32 (c:Int) (by kernel_rfl) (by kernel_rfl),henc]
   clear henc;go_wp2
   go_step3
   go_wp2_with fail
   go_loopg [9,10] 1 (fun g s9 s10 wr => s9 = .int .i64 3 ∧ s10 = .int .i64 0 ∧ Grow w2 wr)
   case atStart => exact ⟨rfl,rfl,Grow.refl _⟩
   case round =>
    obtain ⟨rfl,rfl,hgr⟩:=hrel;have HG:=Hh hgr;clear hgr;go_wp2
    go_step3
    go_wp2
    go_quiet (fail)
    clear hc0 hcv hvr hc65 hd1 hd1n b1 b2 hβ hcl hci h1 h2 h3 hc m1 m3;go_wp2;have hG2:=Hh (Grow.drewN HG.out nq);generalize wr.drewN nq = wr2 at hG2
    go_quiet (refine Calls.quiet_of_same (hI1.out _))
    go_wp2;simp only [Exit.noGoto_ret,Exit.then,Exit.inBlock];go_ret;exact ⟨rfl,Grow.drewN hG2.out _⟩
open Go.RowKit Go.Lib
theorem index_minus (w:World):Calls Tryz.prog 178 #[.string ⟨CUT.toArray⟩,.int .i32 175] w fun e w' => e = .returned (.int .i64 11) ∧ Grow w w':=by
 have henc:Utf8.encode 175 = ⟨#[194,175]⟩:=by rw [show (175:Int) = ((175:Nat):Int) from rfl,enc_bytes (by decide)];rfl
 have hV:=Hh (fun W => Tryz.utf8_ValidRune 175 W);have hvr:Lib.validRune 175 = true:=by decide
 obtain ⟨R,hR⟩:∃ R,(⟨#[194,175]⟩:ByteArray) = R:=⟨_,rfl⟩;have hRs:R.size = 2:=by rw [← hR];rfl
 obtain ⟨S,hS⟩:∃ S,(⟨CUT.toArray⟩:ByteArray) = S:=⟨_,rfl⟩;have hSs:S.size = 14:=by rw [← hS];rfl
 have hi0:∀ W,(Instr.index 9 (.string R) (.int .i64 1)).run Tryz.prog W = .ok (.int .u8 175) W:=by subst hR;exact index_str (l:=[194,175]) (i:=1) rfl
 have hi1:∀ W,(Instr.index 9 (.string R) (.int .i64 0)).run Tryz.prog W = .ok (.int .u8 194) W:=by subst hR;exact index_str (l:=[194,175]) (i:=0) rfl
 have hc0:∀ W,(Instr.index 9 (.string S) (.int .i64 1)).run Tryz.prog W = .ok (.int .u8 49) W:=by subst hS;exact index_str (l:=CUT) (i:=1) rfl
 have h11:∀ W,(Instr.index 9 (.string S) (.int .i64 11)).run Tryz.prog W = .ok (.int .u8 194) W:=by subst hS;exact index_str (l:=CUT) (i:=11) rfl
 have hsl:∀ W,(Instr.slice 9 (.string S) (some (.int .i64 2)) none none).run Tryz.prog W = .ok (.string ⟨(CUT.drop 2).toArray⟩) W:=by subst hS;exact slice_from CUT 2 (by decide)
 have hI0:=Hh (fun W => Tryz.strings_IndexByte ⟨(CUT.drop 2).toArray⟩ 175 W);have hI1:Hid (∀ W,Calls Tryz.prog 195 #[.string ⟨(CUT.drop 2).toArray⟩,.int .u8 175] W fun e w' => e = .returned (.int .i64 10) ∧ w' = W):=Hh (fun W => hI0.out W);generalize CUT.drop 2 = D at *;rw [hR] at henc;rw [hS];clear hR hS hI0
 go_enter Tryz.func178,Tryz.ntmps178
 go_wp2_with fail;refine (hV.out _).mono ?_;rintro e w2 ⟨rfl,rfl⟩;simp only [hvr];clear hV;have hcv:∀ W,(convert 21 9 (.int .i32 175)).run Tryz.prog W = .ok (.string R) W:=fun W => by rw [run_convert_int_string W 21 9 .i32 175 (by kernel_rfl) (by kernel_rfl),henc]
 clear henc;go_wp2
 go_step3
 go_wp2_with fail;clear hcv hvr
 go_loopg [9,10] 2 (fun g s9 s10 wr => s9 = .int .i64 1 ∧ s10 = .int .i64 0 ∧ Grow w2 wr)
 case atStart => exact ⟨rfl,rfl,Grow.refl _⟩
 case round =>
  obtain ⟨rfl,rfl,hgr⟩:=hrel;have HG:=Hh hgr;clear hgr;go_wp2
  go_step3
  go_wp2
  go_quiet (fail)
  go_wp2;have hG2:=Hh (Grow.drewN HG.out nq);generalize wr.drewN nq = wr2 at hG2;clear hc0
  go_quiet (refine Calls.quiet_of_same (hI1.out _))
  go_wp2;have hG3:=Hh (Grow.drewN hG2.out nq);generalize wr2.drewN nq = wr3 at hG3;clear hsl hI1 hi0
  go_loopg [12] 2 (fun g s12 wx => ((s12 = .int .i64 1 ∧ g = 2) ∨ (s12 = .int .i64 2 ∧ g = 1)) ∧ Grow w2 wx)
  case atStart => exact ⟨.inl ⟨rfl,rfl⟩,hG3.out⟩
  case round =>
   obtain ⟨hrel,hgr⟩:=hrel;have hG4:=Hh hgr;clear hgr
   rcases hrel with ⟨rfl,rfl⟩ | ⟨rfl,rfl⟩
   ·go_wp2
    go_quiet (fail)
    go_wp2;go_roundg 1
    case rel => exact ⟨.inr ⟨rfl,rfl⟩,Grow.drewN hG4.out _⟩
    case measure => omega
   ·go_wp2
    simp only [Exit.noGoto_ret,Exit.then,Exit.inBlock];go_ret;exact ⟨rfl,hG4.out⟩
open Go.RowKit Go.Lib
theorem cut_ascii:∀ c,c < 128 → decide (0 ≤ indexByte CUT c.toUInt8) = numC c:=by decide
theorem contains_any (c:Nat) (hc:isSign c = true) (w:World):Calls Tryz.prog 156 #[.string ⟨CUT.toArray⟩,.int .i32 c] w fun e w' => e = .returned (.bool (numC c)) ∧ Grow w w':=by
 by_cases h1:c < 128
 ·refine (Tryz.strings_ContainsRune_ascii ⟨CUT.toArray⟩ (c:Int) w (by omega) (by omega)).mono ?_
  rintro e w' ⟨rfl,rfl⟩;refine ⟨?_,Grow.refl _⟩;rw [← cut_ascii c h1];rfl
 ·by_cases h2:c = 175
  ·subst h2
   have HC:=Hh (fun W => index_minus W);have hn:numC 175 = true:=by decide
   rw [hn];generalize CUT = C at *
   go_enter Tryz.func156,Tryz.ntmps156
   go_wp2_with fail;refine (HC.out _).mono ?_;rintro e w1 ⟨rfl,hg⟩;go_wp2;go_ret;exact ⟨rfl,hg⟩
  ·have hn:numC c = false:=by unfold numC;simp;omega
   rw [hn]
   have HC:Hid (∀ W,Calls Tryz.prog 178 #[.string ⟨CUT.toArray⟩,.int .i32 c] W fun e w' => e = .returned (.int .i64 (-1)) ∧ Grow W w'):=Hh (fun W => by
    by_cases h3:c = 65533
    ·subst h3
     exact index_bad W
    ·exact index_far c hc (by omega) h3 h2 W)
   generalize CUT = C at *
   go_enter Tryz.func156,Tryz.ntmps156
   go_wp2_with fail;refine (HC.out _).mono ?_;rintro e w1 ⟨rfl,hg⟩;go_wp2;go_ret;exact ⟨rfl,hg⟩
theorem nsB_numC {b:UInt8} (h:b.toNat < 128):nsB b = numC b.toNat:=by
 have:∀ n,n < 128 → nsB (UInt8.ofNat n) = numC n:=by decide
 have h2:=this _ h
 rwa [u8_eq rfl] at h2
theorem numS_next {l:List UInt8} (h:l ≠ []):1 ≤ (runeD l).2 ∧ (numC (runeD l).1 = true → (runeD l).2 ≤ l.length ∧ numS l = (runeD l).2 + numS (l.drop (runeD l).2)) ∧ (numC (runeD l).1 = false → numS l = 0) ∧ isSign (runeD l).1 = true:=by
 cases l with
 | nil => exact absurd rfl h
 | cons b r =>
  have hb:=u8_lt b
  by_cases h1:b.toNat < 128
  ·have e:runeD (b :: r) = (b.toNat,1):=runeD_of (next_one h1) (by omega)
   rw [e];refine ⟨Nat.le_refl _,fun hn => ⟨by simp,?_⟩,fun hn => ?_,by rw [isSign_iff];simp only;omega⟩
   ·rw [numS_ns (by rw [nsB_numC h1];exact hn)]
    simp only [List.drop_succ_cons,List.drop_zero];omega
   ·exact numS_not (by rw [nsB_numC h1];exact hn) (by rintro rfl;simp at h1) r
  ·have hns:nsB b = false:=by
    unfold nsB Num.isPc;have:¬ b = 69:=by rintro rfl;simp at h1
    have:¬ b = 32:=by rintro rfl;simp at h1
    simp [*];omega
   by_cases hz:(nextD (b :: r)).2 = 0
   ·have e:runeD (b :: r) = (65533,1):=by unfold runeD;rw [if_pos hz]
    rw [e];refine ⟨Nat.le_refl _,fun hn => by simp [numC] at hn,fun _ => ?_,by decide⟩
    by_cases h194:b = 194
    ·subst h194
     cases r with
     | nil => exact numS_last
     | cons d t =>
      by_cases hd:d = 175
      ·subst hd
       exact absurd hz (by rw [next_two (c:=175) (by decide) (by decide) (by decide) (by decide) (by decide)];simp)
      ·exact numS_half hd t
    ·exact numS_not hns h194 r
   ·have e:runeD (b :: r) = nextD (b :: r):=by unfold runeD;rw [if_neg hz]
    obtain ⟨k1,k2,k3⟩:=next_inv hz;rw [e];have hbp:=bytes_pos k1;refine ⟨by omega,fun hn => ?_,fun hn => ?_,k1⟩
    ·have hc:(nextD (b :: r)).1 = 175:=by
      generalize (nextD (b :: r)).1 = c at *;have hcl:¬ c < 128:=by
       intro hc;have:bytesD c = [UInt8.ofNat c]:=by unfold bytesD;rw [if_pos k1,if_pos hc]
       rw [this] at k2;have h0:=List.cons.inj k2;have:=congrArg UInt8.toNat h0.1;rw [u8_nat (by omega)] at this
       omega
      unfold numC at hn;simp at hn;omega
     have hb2:bytesD 175 = [194,175]:=by decide
     rw [hc,hb2] at k2 k3;rw [k3];have hl:b :: r = 194 :: 175 :: (b :: r).drop 2:=by rw [k3] at k2;exact k2.symm
     refine ⟨by rw [hl];simp,?_⟩
     rw [hl];show numS (194 :: 175 :: (b :: r).drop 2) = 2 + numS ((b :: r).drop 2);rw [numS_sign];omega
    ·by_cases h194:b = 194
     ·subst h194
      cases r with
      | nil => exact numS_last
      | cons d t =>
       by_cases hd:d = 175
       ·subst hd
        rw [next_two (c:=175) (by decide) (by decide) (by decide) (by decide) (by decide)] at hn
        exact absurd hn (by decide)
       ·exact numS_half hd t
     ·exact numS_not hns h194 r
end Go.Proofs.YteoogioanjkacaaGreatDoor.Quo
namespace Go.Proofs
open Go.Shelf
def Tryz.lays161_ren:Go.Shelf.Ren:=⟨fun | 161 => 95 | 231 => 127 | 227 => 128 | 233 => 129 | 235 => 130 | 228 => 155 | 197 => 151 | 151 => 156 | 260 => 173 | 152 => 178 | 137 => 195 | 119 => 80 | 224 => 176 | 225 => 175 | 217 => 174 | 266 => 193 | n => n,fun | 9 => 9 | 4 => 4 | 3 => 3 | 5 => 5 | 117 => 141 | 116 => 140 | 0 => 0 | 124 => 144 | 105 => 134 | 21 => 21 | 119 => 187 | 46 => 124 | 139 => 190 | 138 => 189 | n => n,fun | 3 => 2 | 4 => 3 | n => n⟩
theorem Tryz.lays161:Go.Proofs.Lays.n161 Tryz.prog Tryz.lays161_ren:={
 mixed:=by kernel_rfl
 f119:=Tryz.func80.trans (congrArg some (by kernel_rfl))
 f137:=Tryz.func195.trans (congrArg some (by kernel_rfl))
 f151:=Tryz.func156.trans (congrArg some (by kernel_rfl))
 f152:=Tryz.func178.trans (congrArg some (by kernel_rfl))
 f161:=Tryz.func95.trans (congrArg some (by kernel_rfl))
 f197:=Tryz.func151.trans (congrArg some (by kernel_rfl))
 f217:=Tryz.func174.trans (congrArg some (by kernel_rfl))
 f224:=Tryz.func176.trans (congrArg some (by kernel_rfl))
 f225:=Tryz.func175.trans (congrArg some (by kernel_rfl))
 f227:=Tryz.func128.trans (congrArg some (by kernel_rfl))
 f228:=Tryz.func155.trans (congrArg some (by kernel_rfl))
 f231:=Tryz.func127.trans (congrArg some (by kernel_rfl))
 f233:=Tryz.func129.trans (congrArg some (by kernel_rfl))
 f235:=Tryz.func130.trans (congrArg some (by kernel_rfl))
 f260:=Tryz.func173.trans (congrArg some (by kernel_rfl))
 f266:=Tryz.func193.trans (congrArg some (by kernel_rfl))
 t0:=Tryz.underlying0
 a0:=Tryz.isAgg0
 z0:=Tryz.sizeOf0
 v0:=Tryz.zeroValue0
 t3:=Tryz.underlying3
 a3:=Tryz.isAgg3
 z3:=Tryz.sizeOf3
 v3:=Tryz.zeroValue3
 t4:=Tryz.underlying4
 a4:=Tryz.isAgg4
 z4:=Tryz.sizeOf4
 v4:=Tryz.zeroValue4
 t5:=Tryz.underlying5
 a5:=Tryz.isAgg5
 z5:=Tryz.sizeOf5
 v5:=Tryz.zeroValue5
 t9:=Tryz.underlying9
 a9:=Tryz.isAgg9
 z9:=Tryz.sizeOf9
 v9:=Tryz.zeroValue9
 t21:=Tryz.underlying21
 a21:=Tryz.isAgg21
 z21:=Tryz.sizeOf21
 v21:=Tryz.zeroValue21
 t46:=Tryz.underlying124
 a46:=Tryz.isAgg124
 z46:=Tryz.sizeOf124
 v46:=Tryz.zeroValue124
 t105:=Tryz.underlying134
 a105:=Tryz.isAgg134
 z105:=Tryz.sizeOf134
 v105:=Tryz.zeroValue134
 t116:=Tryz.underlying140
 a116:=Tryz.isAgg140
 z116:=Tryz.sizeOf140
 t117:=Tryz.underlying141
 a117:=Tryz.isAgg141
 z117:=Tryz.sizeOf141
 v117:=Tryz.zeroValue141
 t119:=Tryz.underlying187
 a119:=Tryz.isAgg187
 z119:=Tryz.sizeOf187
 t124:=Tryz.underlying144
 a124:=Tryz.isAgg144
 z124:=Tryz.sizeOf144
 v124:=Tryz.zeroValue144
 t138:=Tryz.underlying189
 a138:=Tryz.isAgg189
 z138:=Tryz.sizeOf189
 v138:=Tryz.zeroValue189
 t139:=Tryz.underlying190
 a139:=Tryz.isAgg190
 z139:=Tryz.sizeOf190
 v139:=Tryz.zeroValue190
 g3:=by kernel_rfl
 g4:=by kernel_rfl }
end Go.Proofs
namespace Go.Proofs.YteoogioanjkacaaGreatDoor.Quo
open Go.RowKit Go.Lib
theorem trimU_any (l:List UInt8) (w:World) (hL:Laid w):Calls Tryz.prog 130 #[.string ⟨l.toArray⟩,.string ⟨CUT.toArray⟩] w fun e w' => e = .returned (.string ⟨(l.drop (numS l)).toArray⟩) ∧ Grow w w':=by
 have HL:=Hh hL;have HC:=Hh (fun c hc W => contains_any c hc W);have HN:=Hh (fun (r:List UInt8) h => numS_next (l:=r) h);clear hL;generalize CUT = C at *
 go_enter Tryz.func130,Tryz.ntmps130
 go_wp2
 go_loopg [0] l.length (fun gk s0 wr => ∃ r:List UInt8,s0 = .string ⟨r.toArray⟩ ∧ r.length = gk ∧ Hid (l.drop (numS l) = r.drop (numS r)) ∧ Hid (Grow w wr))
 case atStart => exact ⟨l,rfl,rfl,Hh rfl,Hh (Grow.refl _)⟩
 case round =>
  obtain ⟨r,rfl,rfl,HR,HG⟩:=hrel;have hsz:(⟨r.toArray⟩:ByteArray).size = r.length:=str_size r
  by_cases h0:r = []
  ·subst h0
   go_wp2;go_ret;exact ⟨by rw [HR.out];rfl,HG.out⟩
  ·have hpos:0 < r.length:=List.length_pos_iff.2 h0
   obtain ⟨n1,n2,n3,n4⟩:=HN.out r h0;have HD:=Hh (fun W hT => Tryz.utf8_DecodeRuneInString ⟨r.toArray⟩ W hT);have hd:decodeGo ⟨r.toArray⟩ = runeD r:=by rw [decode_list,if_neg h0]
   rw [hd] at HD;obtain ⟨c,hc⟩:∃ c,(runeD r).1 = c:=⟨_,rfl⟩;obtain ⟨n,hn⟩:∃ n,(runeD r).2 = n:=⟨_,rfl⟩;rw [hc,hn] at HD n2;rw [hc] at n3 n4;rw [hn] at n1;have HS:=Hh n4;clear hd hc hn n4;obtain ⟨S,hS⟩:∃ S,(⟨r.toArray⟩:ByteArray) = S:=⟨_,rfl⟩
   cases hb:numC c with
   | true =>
    obtain ⟨k1,k2⟩:=n2 hb;have hsl:=slice_from r n k1;have HR2:Hid (l.drop (numS l) = (r.drop n).drop (numS (r.drop n))):=Hh (by rw [HR.out,k2,List.drop_drop])
    have hdl:(r.drop n).length = r.length - n:=List.length_drop;have HC2:=Hh (HC.out c HS.out);rw [hb] at HC2;rw [hS] at HD hsl hsz ⊢;clear HR hS n2 n3 k2 hb HS h0;go_wp2_with fail;refine (HD.out _ (HL.out.grow HG.out)).mono ?_;rintro e w1 ⟨rfl,hg1⟩;have HG1:=Hh (HG.out.trans hg1);clear hg1 HD;go_wp2_with fail;refine (HC2.out _).mono ?_;rintro e w3 ⟨rfl,hg3⟩;have HG3:=Hh (HG1.out.trans hg3);clear hg3 HC2;go_wp2;go_roundg (r.length - n)
    case rel => exact ⟨r.drop n,rfl,hdl,HR2,HG3⟩
    case measure => omega
   | false =>
    have hz:=n3 hb;have HR2:Hid (l.drop (numS l) = r):=Hh (by rw [HR.out,hz,List.drop_zero])
    have HC2:=Hh (HC.out c HS.out);rw [hb] at HC2;have HSS:=Hh hS;rw [hS] at HD hsz ⊢;clear HR hS n2 n3 hb HS h0 hz;go_wp2_with fail;refine (HD.out _ (HL.out.grow HG.out)).mono ?_;rintro e w1 ⟨rfl,hg1⟩;have HG1:=Hh (HG.out.trans hg1);clear hg1 HD;go_wp2_with fail;refine (HC2.out _).mono ?_;rintro e w3 ⟨rfl,hg3⟩;have HG3:=Hh (HG1.out.trans hg3);clear hg3 HC2;go_wp2;go_ret;exact ⟨by rw [HR2.out,HSS.out];rfl,HG3.out⟩
theorem h140:(Tryz.prog.info? 140).map (fun i => (i.zero,i.size)) = some (some (.agg (Array.replicate 256 (.bool false))),256):=by kernel_rfl
theorem trimleft_any (l:List UInt8) (w:World) (hL:Laid w):Calls Tryz.prog 95 #[.string ⟨l.toArray⟩,.string ⟨CUT.toArray⟩] w fun e w' => e = .returned (.string ⟨(l.drop (numS l)).toArray⟩) ∧ Grow w w':=by
 by_cases h0:l = []
 ·subst h0
  have hz:(⟨([]:List UInt8).toArray⟩:ByteArray) = .empty:=rfl;generalize CUT = C at *
  go_enter Tryz.func95,Tryz.ntmps95
  go_wp2;go_ret;exact ⟨rfl,Grow.refl _⟩
 ·have hpos:0 < l.length:=List.length_pos_iff.2 h0
  exact left_not (P:=Tryz.prog) (ρ:=Tryz.lays161_ren) Tryz.lays161 (zero_of_info h140).1 (zero_of_info h140).2 ⟨l.toArray⟩ [48,49,50,51,52,53,54,55,56,57,69] [175,32] 194 w ⟨(l.drop (numS l)).toArray⟩
   (by decide) (by decide) (by rw [str_size];exact hpos) (by decide) (by decide) (fun W hg => trimU_any l W (hL.grow hg))
end Go.Proofs.YteoogioanjkacaaGreatDoor.Quo
namespace Go.Proofs.YteoogioanjkacaaGreatDoor
open Go.RowKit Go.Lib
def AtR (g:Nat) (v:Value) (s:List UInt8) (w:World):Prop:=Boxed 52 w g v (.string ⟨s.toArray⟩)
def Step (g:Nat) (v:Value) (s:List UInt8) (w w':World):Prop:=AtR g v s w' ∧ Kept (fun k => k = g) w w'
theorem AtR.put {g:Nat} {v:Value} {s t:List UInt8} {w:World} (h:AtR g v s w):Step g v t w (w.setCell ⟨g,1,none⟩ (.string ⟨t.toArray⟩)):=⟨Boxed.put1 h _,(Kept.refl _ _).one _⟩
theorem AtR.grow {g:Nat} {v:Value} {s:List UInt8} {w w':World} (h:AtR g v s w) (hg:Grow w w'):AtR g v s w':=Boxed.grow h hg
theorem Step.grow {g:Nat} {v:Value} {s:List UInt8} {a b c:World} (h:Step g v s a b) (hg:Grow b c):Step g v s a c:=⟨h.1.grow hg,h.2.trans (Kept.of_grow hg)⟩
theorem Step.after {g:Nat} {v:Value} {s:List UInt8} {a b c:World} (h:Step g v s b c) (hg:Kept (fun k => k = g) a b):Step g v s a c:=⟨h.1,hg.trans h.2⟩
theorem pre_beg (l p:List UInt8):hasPrefix l p = begB l p:=rfl
theorem trim_beg (l p:List UInt8):trimPrefix l p = if begB l p = true then l.drop p.length else l:=rfl
theorem begins_any (g:Nat) (v:Value) (s p:List UInt8) (w:World) (h:AtR g v s w):Calls Tryz.prog 49 #[.pointer (some ⟨g,0,none⟩),.string ⟨p.toArray⟩] w fun e w' => e = .returned (.bool (begB s p)) ∧ w' = w:=by
 have h1:=Boxed.snd h;have HC:=Hh (Tryz.strings_HasPrefix ⟨s.toArray⟩ ⟨p.toArray⟩ w);rw [show (⟨s.toArray⟩:ByteArray).data.toList = s from rfl,show (⟨p.toArray⟩:ByteArray).data.toList = p from rfl,pre_beg] at HC;clear h;generalize (⟨s.toArray⟩:ByteArray) = S at *;generalize (⟨p.toArray⟩:ByteArray) = R at *
 go_enter Tryz.func49,Tryz.ntmps49
 go_wp2_with fail;refine (HC.out).mono ?_;rintro e w ⟨rfl,rfl⟩;go_wp2;go_ret;exact ⟨rfl,rfl⟩
def skipL (s p:List UInt8):List UInt8:=if begB s p = true then s.drop p.length else s
theorem skip_any (g:Nat) (v:Value) (s p:List UInt8) (w:World) (h:AtR g v s w):Calls Tryz.prog 47 #[.pointer (some ⟨g,0,none⟩),.string ⟨p.toArray⟩] w fun e w' => e = .returned (.bool (begB s p)) ∧ Step g v (skipL s p) w w':=by
 have h1:=Boxed.snd h;have HP:=Hh (AtR.put (t:=skipL s p) h);have hfz:=Boxed.froz h 1;have HC:=Hh (Tryz.strings_CutPrefix ⟨s.toArray⟩ ⟨p.toArray⟩ w);rw [show (⟨s.toArray⟩:ByteArray).data.toList = s from rfl,show (⟨p.toArray⟩:ByteArray).data.toList = p from rfl,pre_beg,trim_beg] at HC;change Hid (Calls _ _ _ _ fun e w' => e = .returned (.tuple #[.string ⟨(skipL s p).toArray⟩,_]) ∧ _) at HC;clear h;generalize (⟨(skipL s p).toArray⟩:ByteArray) = L at *;generalize (⟨s.toArray⟩:ByteArray) = S at *;generalize (⟨p.toArray⟩:ByteArray) = R at *
 go_enter Tryz.func47,Tryz.ntmps47
 go_wp2_with fail;refine (HC.out).mono ?_;rintro e w ⟨rfl,rfl⟩;go_wp2;go_ret;exact ⟨rfl,HP.out⟩
theorem cut_any' (g:Nat) (v:Value) (s:List UInt8) (n:Nat) (w:World) (h:AtR g v s w) (hn:n ≤ s.length):Calls Tryz.prog 93 #[.pointer (some ⟨g,0,none⟩),.int .i64 n] w fun e w' => e = .returned (.string ⟨(s.take n).toArray⟩) ∧ Step g v (s.drop n) w w':=by
 have h1:=Boxed.snd h;have HP:=Hh (AtR.put (t:=s.drop n) h);have hfz:=Boxed.froz h 1;have hs1:=Num.slice_to s n hn;have hs2:=Num.slice_from s n hn;clear h;generalize (⟨(s.drop n).toArray⟩:ByteArray) = L at *;generalize (⟨(s.take n).toArray⟩:ByteArray) = K at *;generalize (⟨s.toArray⟩:ByteArray) = S at *
 go_enter Tryz.func93,Tryz.ntmps93
 go_wp2;go_ret;exact ⟨rfl,HP.out⟩
def Rd (g z:Nat) (ns:List Nd) (s:List UInt8) (w:World):Prop:=∃ v,AtR g v s w ∧ OwnRN (g + 1) v ns w ∧ g < z ∧ z ≤ w.heap.size ∧ ∀ b,v.ownBlock = some b → b < z
theorem OwnRN.kept {B g:Nat} {v:Value} {ns:List Nd} {w w':World} (h:OwnRN B v ns w) (hg:g < B) (hk:Kept (fun k => k = g) w w'):OwnRN B v ns w':=by
 obtain ⟨hB,vals,ho,hn⟩:=h;refine ⟨Nat.le_trans hB hk.size,vals,?_,fun i hi => (hn i hi).keep (fun b hb => ⟨⟨hb.1,hb.2.1,Nat.lt_of_lt_of_le hb.2.2 hk.size⟩,hk.block b hb.2.2 (by omega)⟩) (fun _ _ _ => rfl)⟩
 refine ⟨ho.1,?_⟩
 rcases ho.2 with h | ⟨q,cap,cur,e1,hb,hq,rest⟩
 ·exact .inl h
 ·exact .inr ⟨q,cap,cur,e1,hb,(hk.block q (heap_lt hq) (by omega)).trans hq,rest⟩
theorem Rd.step {g z:Nat} {v:Value} {ns:List Nd} {s t:List UInt8} {w w':World} (ho:OwnRN (g + 1) v ns w) (hz:g < z) (hzw:z ≤ w.heap.size) (hv:∀ b,v.ownBlock = some b → b < z) (hs:Step g v t w w'):Rd g z ns t w' :=
 ⟨v,hs.1,ho.kept (by omega) hs.2,hz,Nat.le_trans hzw hs.2.size,hv⟩
end Go.Proofs.YteoogioanjkacaaGreatDoor
