/-
  Contracts, joined: NDecMem, NMakes, NReads, QUtf, QRunes, QQuoteMath, QIntMem, QBytes, QFirst, QReads. Nothing is claimed here by itself.
-/
import Derived.Test.YteoogioanjkacaaGreatDoorU01
import Derived.Test.YteoogioanjkacaaGreatDoorU07
import Derived.Test.YteoogioanjkacaaGreatDoorProg
import Derived.ProofKit
import Derived.WalkKit
import Derived.Laws.CopyOwn
import Derived.Laws.MakeOwn
import Derived.Laws.AppendOwnNone
import Derived.ArgAppend
import Derived.Maps.AppendAt
import Derived.Lib.Hide
import Derived.Lib.SmallJoins
import Derived.OpenShut
import Derived.Deep.LoopGhost
import Derived.Shelf.Pu.Clone
import Derived.Lib.TrimUEq
import Derived.Lib.RuneBytes
import Derived.Lib.OthersKept
import Derived.Lib.AppendStr
import Derived.Laws.BytesArg
import Derived.Laws.OwnMore
import Derived.Deep.CutBlock
import Derived.Deep.DeepCutAuto
import Derived.BigRegion
set_option maxRecDepth 100000
set_option maxHeartbeats 12800000
set_option linter.unusedSimpArgs false
set_option linter.unusedVariables false
namespace Go.Proofs.YteoogioanjkacaaGreatDoor.Num
open Go.RowKit Go.Lib
theorem heap_lt {w:World} {b:Nat} {o:Obj} (h:w.heap[b]? = some o):b < w.heap.size:=(Array.getElem?_eq_some_iff.1 h).1
def dvs (ds:List (Int × Int)):List Value:=ds.flatMap fun x => [.int .i64 x.1,.int .i64 x.2]
def Src (w:World) (A:Option Addr) (vs:List Value):Prop:=0 < vs.length → ∃ ad,A = some ad ∧ ∀ j u,vs[j]? = some u → w.cell? (ad.add j) = some u
def Ones (vs:List Value):Prop:=∀ u ∈ vs,u.oneCell' = true
theorem info_of {P:Program} {e:TypeId} {z:Value} {size bytes:Nat} (h:(P.info? e).map (fun i => (i.zero,i.size,i.bytes)) = some (some z,size,bytes)):∃ i,P.info? e = some i ∧ i.zero = some z ∧ i.size = size ∧ i.bytes = bytes:=by
 obtain ⟨i,hi,hz⟩:=Option.map_eq_some_iff.1 h;simp only [Prod.mk.injEq] at hz;exact ⟨i,hi,hz.1,hz.2.1,hz.2.2⟩
theorem info_dec:(Tryz.prog.info? 41).map (fun i => (i.zero,i.size,i.bytes)) = some (some (.agg #[.int .i64 0,.int .i64 0]),2,16):=by kernel_rfl
theorem info_str:(Tryz.prog.info? 9).map (fun i => (i.zero,i.size,i.bytes)) = some (some (.string ⟨#[]⟩),1,16):=by kernel_rfl
theorem dvs_len (ds:List (Int × Int)):(dvs ds).length = ds.length * 2:=by
 induction ds with
 | nil => rfl
 | cons x ds ih => simp only [dvs,List.flatMap_cons,List.length_append,List.length_cons,List.length_nil] at ih ⊢;omega
theorem dvs_one (ds:List (Int × Int)):Ones (dvs ds):=fun u hu => by
 obtain ⟨x,_,hx⟩:=List.mem_flatMap.1 hu;simp only [List.mem_cons,List.not_mem_nil,or_false] at hx
 rcases hx with rfl | rfl <;> rfl
theorem dvs_get (ds:List (Int × Int)):∀ i,i < ds.length → (dvs ds)[i * 2]? = some (.int .i64 (ds.getD i (0,0)).1) ∧ (dvs ds)[i * 2 + 1]? = some (.int .i64 (ds.getD i (0,0)).2):=by
 induction ds with
 | nil => intro i hi;simp at hi
 | cons x ds ih =>
  intro i hi
  cases i with
  | zero => simp [dvs]
  | succ i =>
   have:=ih i (by simpa using hi)
   simp only [dvs,List.flatMap_cons] at this ⊢;rw [show (i + 1) * 2 = i * 2 + 1 + 1 by omega]
   simpa using this
theorem addr_add (b off j:Nat):(⟨b,off,none⟩:Addr).add j = ⟨b,off + j,none⟩:=by unfold Addr.add;split <;> simp_all
theorem src_decs {w:World} {B:Nat} {A:Option Addr} {ds:List (Int × Int)} (h:Decs w B A ds):Src w A (dvs ds):=fun hp => by
 rw [dvs_len] at hp;obtain ⟨b,off,rfl,_,hc⟩:=h (by omega)
 refine ⟨_,rfl,fun j u hj => ?_⟩;have hl:j / 2 < ds.length:=by
  have:=(List.getElem?_eq_some_iff.1 hj).1;rw [dvs_len] at this;omega
 rw [addr_add,← hj];obtain ⟨h1,h2⟩:=hc (j / 2) hl;obtain ⟨g1,g2⟩:=dvs_get ds (j / 2) hl
 rcases Nat.mod_two_eq_zero_or_one j with h0 | h0
 ·rw [show j / 2 * 2 = j by omega] at h1 g1
  rw [h1,g1]
 ·rw [show off + j / 2 * 2 + 1 = off + j by omega] at h2
  rw [show j / 2 * 2 + 1 = j by omega] at g2
  rw [h2,g2]
theorem dvs_app (a b:List (Int × Int)):dvs (a ++ b) = dvs a ++ dvs b:=by simp [dvs]
theorem ownsRow_grow {w w':World} {base size n:Nat} {t:TypeId} {v:Value} {vals:List Value} (ho:w.ownsRow base t size v n vals) (hg:Grow w w'):w'.ownsRow base t size v n vals :=
 ⟨ho.1,by
  rcases ho.2 with h0 | ⟨g',cap',cur,hv,hbg,hgg,rest⟩
  ·exact .inl h0
  ·exact .inr ⟨g',cap',cur,hv,hbg,(hg.block g' (heap_lt hgg)).trans hgg,rest⟩⟩
theorem run_append_empty (t ty e:TypeId) (i:TypeInfo) (ht:Tryz.prog.underlying t = some (.slice e)) (hi:Tryz.prog.info? e = some i) (w:World) (B size n:Nat) (v:Value) (xs:List Value)
  (hv:w.ownsRow B e size v n xs) (A:Option Addr) (c:Nat) :
  (Builtin.append_ #[t,t] ty #[v,.slice A 0 c]).run Tryz.prog w = .ok v w:=by
 rcases hv.2 with ⟨rfl,rfl⟩ | ⟨g,cap,cur,rfl,_,_,hnc,_⟩
 ·cases A <;> simp [Builtin.append_,run_underlying ht,sizeOf,typeInfo,hi,Builtin.lenOf,Builtin.firstCells,loadCells,loadCellsFrom,storeCells]
 ·cases A <;> simp [Builtin.append_,run_underlying ht,sizeOf,typeInfo,hi,Builtin.lenOf,Builtin.firstCells,loadCells,loadCellsFrom,storeCells,hnc]
theorem run_append_any (w:World) (B:Nat) (t ty e:TypeId) (i:TypeInfo) (z:Value) (size bytes:Nat) (ht:Tryz.prog.underlying t = some (.slice e)) (hi:Tryz.prog.info? e = some i) (hz:i.zero = some z)
  (hsize:i.size = size) (hby:i.bytes = bytes) (hzs:z.cells.size = size) (hsz:0 < size) (v:Value) (n:Nat) (xs:List Value) (hown:w.ownsRow B e size v n xs)
  (A:Option Addr) (m c:Nat) (news:List Value) (hl:news.length = m * size) (hsrc:Src w A news) (h1:Ones news) (hb:(n + m) * bytes ≤ 140737488355328) (hb2:n + m ≤ 1000000000) (hB:B ≤ w.heap.size) :
  ∃ v' w',(Builtin.append_ #[t,t] ty #[v,.slice A m c]).run Tryz.prog w = .ok v' w' ∧ w'.ownsRow B e size v' (n + m) (xs ++ news) ∧ Below B w w':=by
 by_cases h0:m = 0
 ·subst h0
  have hn0:news = []:=List.eq_nil_of_length_eq_zero (by omega)
  subst hn0;exact ⟨v,w,run_append_empty t ty e i ht hi w B size n v xs hown A c,by simpa using hown,Below.refl _ _⟩
 ·obtain ⟨ad,rfl,hc⟩:=hsrc (by rw [hl];exact Nat.mul_pos (by omega) hsz)
  obtain ⟨v',w',hr,h2,h3,_,h5⟩:=run_append_own_at (P:=Tryz.prog) w B t ty e i z size bytes ht hi hz hsize hby hzs hsz v n xs hown ad m c news hl hc h1 (by unfold maxLen;omega) hb hB
  exact ⟨v',w',hr,h2,Below.grown (Below.refl _ _) h3 hB (fun g hg => (hown.lt g hg).1)⟩
def OwnD (B:Nat) (v:Value) (ds:List (Int × Int)) (w:World):Prop:=w.ownsRow B 41 2 v ds.length (dvs ds)
theorem ownD_nil (B:Nat) (w:World):OwnD B (.slice none 0 0) [] w:=World.ownsRow_nil _ _ _ _
theorem OwnD.grow {B:Nat} {v:Value} {ds:List (Int × Int)} {w w':World} (h:OwnD B v ds w) (hg:Grow w w'):OwnD B v ds w':=ownsRow_grow h hg
theorem own_at {w:World} {B size n:Nat} {e:TypeId} {v:Value} {xs:List Value} (h:w.ownsRow B e size v n xs) :
  ∃ A c,v = .slice A n c ∧ n ≤ c ∧ (A = none → c = 0) ∧ (0 < n → ∃ g,A = some ⟨g,0,none⟩ ∧ B ≤ g ∧ g < w.heap.size ∧ ∀ j u,xs[j]? = some u → w.cell? ⟨g,j,none⟩ = some u):=by
 rcases h.2 with ⟨rfl,rfl⟩ | ⟨g,cap,cur,rfl,hbg,hgg,hnc,hcm,hsz,htake⟩
 ·exact ⟨none,0,rfl,Nat.le_refl _,fun _ => rfl,fun h => absurd h (Nat.lt_irrefl _)⟩
 ·refine ⟨some ⟨g,0,none⟩,cap,rfl,hnc,(fun e => by cases e),fun _ => ⟨g,rfl,hbg,heap_lt hgg,fun j u hj => ?_⟩⟩
  have hjl:j < n * size:=by
   have:=(List.getElem?_eq_some_iff.1 hj).1;rw [h.1] at this;exact this
  rw [cell_of_row w g j cur _ (0,0) hgg,← hj,← htake,List.getElem?_take,if_pos hjl,Array.getElem?_toList]
theorem OwnD.decs {B:Nat} {v:Value} {ds:List (Int × Int)} {w:World} (h:OwnD B v ds w):∃ A c,v = .slice A ds.length c ∧ ds.length ≤ c ∧ Decs w w.heap.size A ds:=by
 obtain ⟨A,c,rfl,hc,_,hg⟩:=own_at h;refine ⟨A,c,rfl,hc,fun hp => ?_⟩;obtain ⟨g,rfl,h1,h2,h3⟩:=hg hp;refine ⟨g,0,rfl,h2,fun i hi => ?_⟩;obtain ⟨k1,k2⟩:=dvs_get ds i hi;rw [Nat.zero_add];exact ⟨h3 _ _ k1,h3 _ _ k2⟩
theorem wp_more_decs {o:Oper} {a:Act} {w:World} {K:Act → World → Prop} {Q:Exit → Act → World → Prop} (s x:Operand)
  (ho:o.op = .call { callee:=.builtin .append,args:=#[s,x],argTypes:=#[32,32] }) (B:Nat) (v:Value) (xs:List (Int × Int)) (A:Option Addr) (m c:Nat) (ys:List (Int × Int))
  (hs:a.eval s = v) (hown:OwnD B v xs w) (hx:a.eval x = .slice A m c) (hm:ys.length = m) (hys:Decs w w.heap.size A ys) (hb:xs.length + m ≤ 1000000000) (hB:B ≤ w.heap.size)
  (h:∀ v' w',Hid (OwnD B v' (xs ++ ys) w') → Hid (Below B w w') → K (a.put o.dst v') w'):o.wp Tryz.prog a w K Q:=by
 obtain ⟨i0,hi,hz0,hz1,hz2⟩:=info_of info_dec;subst hm;obtain ⟨v',w',hr,h2,h3⟩:=run_append_any w B 32 o.type 41 i0 _ 2 16 Tryz.underlying32 hi hz0 hz1 hz2 rfl (by decide) v xs.length (dvs xs) hown A ys.length c (dvs ys) (dvs_len ys) (src_decs hys) (dvs_one ys) (by omega) hb hB
 unfold Oper.wp;simp [execOp,ho,resolve,invoke,builtin,hs,hx,hr,Result.andThen];exact h v' w' (Hh (by rw [← dvs_app] at h2;rw [← List.length_append] at h2;exact h2)) (Hh h3)
theorem wpList_more_decs {ops:Array Oper} {rest:List Oper} {o:Oper} {a:Act} {w:World} {Q:Exit → Act → World → Prop} (hgd:o.guard = none) (s x:Operand)
  (ho:o.op = .call { callee:=.builtin .append,args:=#[s,x],argTypes:=#[32,32] }) (B:Nat) (v:Value) (xs:List (Int × Int)) (A:Option Addr) (m c:Nat) (ys:List (Int × Int))
  (hs:a.eval s = v) (hown:OwnD B v xs w) (hx:a.eval x = .slice A m c) (hm:ys.length = m) (hys:Decs w w.heap.size A ys) (hb:xs.length + m ≤ 1000000000) (hB:B ≤ w.heap.size)
  (h:∀ v' w',Hid (OwnD B v' (xs ++ ys) w') → Hid (Below B w w') → wpList Tryz.prog ops Q rest (a.put o.dst v') w'):wpList Tryz.prog ops Q (o :: rest) a w :=
 wpList_plain hgd fun K hK => wp_more_decs s x ho B v xs A m c ys hs hown hx hm hys hb hB fun v' w' h1 h2 => hK _ _ (h v' w' h1 h2)
theorem decs_cells {w:World} {g:Nat} {t:TypeId} {ds:List (Int × Int)} (h:w.heap[g]? = some (.cells (dvs ds).toArray t (0,0))):Decs w w.heap.size (some ⟨g,0,none⟩) ds:=fun hp =>
 ⟨g,0,rfl,heap_lt h,fun i hi => by
  obtain ⟨k1,k2⟩:=dvs_get ds i hi;rw [Nat.zero_add]
  exact ⟨by rw [cell_of_row w g _ _ t (0,0) h];simpa using k1,by rw [cell_of_row w g _ _ t (0,0) h];simpa using k2⟩⟩
theorem size_alloc (w:World) (o:Obj):(w.alloc o).heap.size = w.heap.size + 1:=by simp
theorem decs_lit1 (w:World) (q r:Int):Decs (w.alloc (.cells #[.int .i64 q,.int .i64 r] 41)) (w.alloc (.cells #[.int .i64 q,.int .i64 r] 41)).heap.size (some ⟨w.heap.size,0,none⟩) [(q,r)] :=
 decs_cells (ds:=[(q,r)]) (heap_alloc_new w _)
open Go.RowKit Go.Lib
def strv (l:List UInt8):Value:=.string ⟨l.toArray⟩
theorem join_any (g n:Nat) (ls:List (List UInt8)) (w:World) (hn:ls.length = n) (hr:w.rowIs g 9 n (fun j => strv (ls.getD j []))) (hl:n ≤ 100000) (hm:∀ x ∈ ls,x.length ≤ 100) :
  Calls Tryz.prog 38 #[.slice (some ⟨g,0,none⟩) n n,.string ⟨#[32]⟩] w fun e w' => e = .returned (.string ⟨(join ls [32]).toArray⟩) ∧ Grow w w':=by
 have hmap:(ls.map fun l => (⟨l.toArray⟩:ByteArray)).map (·.data.toList) = ls:=by
  rw [List.map_map]
  conv => rhs;rw [← List.map_id ls]
  exact List.map_congr_left fun x _ => rfl
 have hlen:=join_len hm
 have:=Tryz.strings_Join g 0 n (ls.map fun l => (⟨l.toArray⟩:ByteArray)) ⟨#[32]⟩ w (fun j x hx => by
  have hj:j < ls.length:=by
   have:=(List.getElem?_eq_some_iff.1 hx).1
   rwa [List.length_map] at this
  rw [Nat.zero_add,hr.cell (by omega)]
  rw [List.getElem?_map] at hx;have e:ls[j]? = some (ls.getD j []):=by simp [List.getD,hj]
  rw [e] at hx;simp only [Option.map_some,Option.some.injEq] at hx;rw [← hx];rfl) hr.lt (by rw [List.length_map];omega) (by rw [List.length_map];omega) (by
   rw [hmap];show (join ls [32]).length ≤ _;have:ls.length * (100 + 1) ≤ 100000 * 101:=Nat.mul_le_mul (by omega) (by omega)
   omega)
 rw [List.length_map,hn,hmap] at this;exact this
theorem row_step {w w':World} {g n k:Nat} {ls:List (List UInt8)} {s:List UInt8} (h:w.rowIs g 9 n (fun j => strv (if j < k then ls.getD j [] else []))) (hw:Grow w w') (hs:ls.getD k [] = s) :
  (w'.setCell ⟨g,k,none⟩ (strv s)).rowIs g 9 n (fun j => strv (if j < k + 1 then ls.getD j [] else [])):=by
 have h1:=h.of_block (hw.block g h.lt);refine (h1.set k (strv s)).congr fun j _ => ?_
 by_cases hj:j = k
 ·subst hj
  rw [← hs];simp
 ·by_cases hlt:j < k
  ·simp [hj,hlt,show j < k + 1 by omega]
  ·simp [hj,hlt,show ¬ j < k + 1 by omega]
theorem getD_in {xs:List Int} (h:∀ x ∈ xs,In x) {k:Nat} (hk:k < xs.length):In (xs.getD k 0):=by
 have e:xs.getD k 0 = xs[k]:=by simp [List.getD,hk]
 rw [e];exact h _ (List.getElem_mem hk)
theorem getD_map {α β:Type} (f:α → β) (xs:List α) (k:Nat) (hk:k < xs.length) (d:α) (e:β):(xs.map f).getD k e = f (xs.getD k d):=by simp [List.getD,hk]
theorem ints_any (A:Option Addr) (n c:Nat) (xs:List Int) (w:World) (hn:xs.length = n) (hnb:n ≤ 100000) (hr:Nums .i64 w w.heap.size A xs) (hi:∀ x ∈ xs,In x) (hL:Pows w) :
  Calls Tryz.prog 18 #[.slice A n c] w fun e w' => e = .returned (.string ⟨(intsT xs).toArray⟩) ∧ Grow w w':=by
 have HN:=Hh hn;have HR:=Hh hr;have HI:=Hh hi;have HL:=Hh hL;have hmk:=fun W => run_make_row' (P:=Tryz.prog) 66 9 (.string ⟨#[]⟩) 16 Tryz.underlying66 info_str rfl .i64 .i64 n (by omega) (by omega) W
 clear hn hr hi hL
 go_enter Tryz.func18,Tryz.ntmps18
 go_wp2;have hrow:=World.rowIs_made w (.string ⟨#[]⟩) n 9;have HRW:=Hh (show (w.alloc (.cells (madeCells #[.string ⟨#[]⟩] n) 9)).rowIs w.heap.size 9 n (fun j => strv (if j < 0 then (xs.map num).getD j [] else [])) from hrow.congr fun j _ => by simp [strv])
 have HG0:=Hh (grow_new w (.cells (madeCells #[.string ⟨#[]⟩] n) 9));have HM:=Hh hmk;clear hrow hmk
 go_loopg [11] n (fun g s11 wr => ∃ k:Nat,k ≤ n ∧ g = n - k ∧ s11 = .int .i64 k ∧ Hid (wr.rowIs w.heap.size 9 n (fun j => strv (if j < k then (xs.map num).getD j [] else []))) ∧ Hid (Grow w wr))
 case atStart => exact ⟨0,Nat.zero_le _,rfl,rfl,HRW,HG0⟩
 case round =>
  obtain ⟨k,hk,rfl,rfl,HW,HG⟩:=hrel;clear HRW HG0
  by_cases hlt:k < n
  ·have hkl:k < xs.length:=by rw [HN.out];exact hlt
   obtain ⟨b,off,rfl,hb,hcl⟩:=HR.out.grow HG.out (by omega)
   have hc:=hcl k hkl;have hin:=getD_in HI.out hkl;have HS:=Hh (getD_map num xs k hkl 0 []);clear hcl hb hkl;generalize xs.getD k 0 = x at hc hin HS;have HT:=Hh (textOf_any x wr hin (HL.out.grow HG.out));clear hin;go_wp2_with fail;refine (HT.out).mono ?_;rintro e w2 ⟨rfl,hg⟩;have HG2:=Hh hg;have HW2:=Hh (HW.out.of_block (hg.block _ HW.out.lt));have hcq:=HW2.out.cell hlt;have hfq:=HW2.out.frozen k;clear hg HT;go_wp2;go_roundg (n - (k + 1))
   case rel => exact ⟨k + 1,by omega,rfl,by go_num,Hh (row_step HW.out HG2.out HS.out),Hh ((HG.out.trans HG2.out).put (Nat.le_refl _) k _)⟩
   case measure => omega
  ·obtain rfl:n = k:=by omega
   have HJ:=Hh (join_any w.heap.size n (xs.map num) wr (by rw [List.length_map];exact HN.out) (HW.out.congr fun j hj => by simp [hj]) hnb (by
    intro y hy;obtain ⟨z,hz,rfl⟩:=List.mem_map.1 hy;have:=num_len (HI.out z hz)
    omega))
   go_wp2_with fail;refine (HJ.out).mono ?_;rintro e w2 ⟨rfl,hg⟩;have HG2:=Hh (HG.out.trans hg);clear hg HJ;go_wp2;go_ret;exact ⟨rfl,HG2.out⟩
theorem decsR_take {ds:List Dc} {k:Nat} (hk:k < ds.length):decsR (ds.take (k + 1)) = (decsR (ds.take k) && rightD (ds.getD k (0,0)).1 (ds.getD k (0,0)).2):=by
 have e:ds.getD k (0,0) = ds[k]:=by simp [List.getD,hk]
 rw [e,List.take_succ_eq_append_getElem hk,decsR_app];simp [decsR]
theorem decsR_not {ds:List Dc} {k:Nat} (hk:k < ds.length) (h:rightD (ds.getD k (0,0)).1 (ds.getD k (0,0)).2 = false):decsR ds = false:=by
 have e:ds.getD k (0,0) = ds[k]:=by simp [List.getD,hk]
 rw [e] at h;unfold decsR;rw [Bool.eq_false_iff,ne_eq,List.all_eq_true];intro hall;have:=hall _ (List.getElem_mem hk);rw [h] at this
 cases this
theorem decs_any (A:Option Addr) (n c:Nat) (ds:List Dc) (w:World) (hn:ds.length = n) (hnb:n ≤ 100000) (hr:Decs w w.heap.size A ds) (hi:∀ x ∈ ds,In x.1 ∧ In x.2) (hL:Pows w) :
  Calls Tryz.prog 23 #[.slice A n c] w fun e w' => e = .returned (.string ⟨(decsT ds).toArray⟩) ∧ Grow w w':=by
 have HN:=Hh hn;have HR:=Hh hr;have HI:=Hh hi;have HL:=Hh hL;have hmk:=fun W => run_make_row' (P:=Tryz.prog) 66 9 (.string ⟨#[]⟩) 16 Tryz.underlying66 info_str rfl .i64 .i64 n (by omega) (by omega) W
 clear hn hr hi hL
 go_enter Tryz.func23,Tryz.ntmps23
 go_wp2;have hrow:=World.rowIs_made w (.string ⟨#[]⟩) n 9;have HRW:=Hh (show (w.alloc (.cells (madeCells #[.string ⟨#[]⟩] n) 9)).rowIs w.heap.size 9 n (fun j => strv (if j < 0 then (ds.map fun d => text d.1 d.2).getD j [] else [])) from hrow.congr fun j _ => by simp [strv])
 have HG0:=Hh (grow_new w (.cells (madeCells #[.string ⟨#[]⟩] n) 9));have HM:=Hh hmk;clear hrow hmk
 go_loopg [11] n (fun g s11 wr => ∃ k:Nat,k ≤ n ∧ g = n - k ∧ s11 = .int .i64 k ∧ Hid (decsR (ds.take k) = true) ∧ Hid (wr.rowIs w.heap.size 9 n (fun j => strv (if j < k then (ds.map fun d => text d.1 d.2).getD j [] else []))) ∧ Hid (Grow w wr))
 case atStart => exact ⟨0,Nat.zero_le _,rfl,rfl,Hh rfl,HRW,HG0⟩
 case round =>
  obtain ⟨k,hk,rfl,rfl,HD,HW,HG⟩:=hrel;clear HRW HG0
  by_cases hlt:k < n
  ·have hkl:k < ds.length:=by rw [HN.out];exact hlt
   obtain ⟨b,off,rfl,hb,hcl⟩:=HR.out.grow HG.out (by omega)
   obtain ⟨hc0,hc1⟩:=hcl k hkl;have hin:In (ds.getD k (0,0)).1 ∧ In (ds.getD k (0,0)).2:=by
    have e:ds.getD k (0,0) = ds[k]:=by simp [List.getD,hkl]
    rw [e];exact HI.out _ (List.getElem_mem hkl)
   have HS:=Hh (getD_map (fun d:Dc => text d.1 d.2) ds k hkl (0,0) []);have HX:=Hh (decsR_not hkl);have HY:=Hh (decsR_take hkl);clear hcl hb hkl;obtain ⟨⟨m,e⟩,hx⟩:∃ x,ds.getD k (0,0) = x:=⟨_,rfl⟩;rw [hx] at hc0 hc1 hin HS HX HY;simp only at hc0 hc1 hin HS HX HY;clear hx;have HT:=Hh (fun W h => text_any m e W hin.1 hin.2 h);have HRI:=Hh (fun W => right_any m e W hin.1 hin.2);clear hin;go_wp2_with fail;refine (HRI.out _).mono ?_;rintro x w2 ⟨rfl,hg⟩;have hb2:=(boxed_new wr (.int .i64 m) (.int .i64 e) 41).grow hg;have d0:=hb2.fst;have d1:=hb2.snd;have HG2:=Hh ((grow_new wr (.cells #[.int .i64 m,.int .i64 e] 41)).trans hg);clear hg HRI hb2 hc0 hc1;obtain ⟨r,hrr⟩:∃ r,rightD m e = r:=⟨_,rfl⟩;rw [hrr] at HX HY;rw [hrr];clear hrr
   cases r
   ·have HF:=Hh (decs_wrong (HX.out rfl))
    clear HX HY HT;go_wp2;go_ret;exact ⟨by rw [HF.out];rfl,HG.out.trans HG2.out⟩
   ·have HD2:=Hh (show decsR (ds.take (k + 1)) = true by rw [HY.out,HD.out];rfl)
    clear HX HY HD;go_wp2_with fail;refine (HT.out _ (HL.out.grow (HG.out.trans HG2.out))).mono ?_;rintro x w3 ⟨rfl,hg⟩;have HG3:=Hh (HG2.out.trans hg);have HW3:=Hh (HW.out.of_block (HG3.out.block _ HW.out.lt));have hcq:=HW3.out.cell hlt;have hfq:=HW3.out.frozen k;clear hg HT HG2 d0 d1;go_wp2;go_roundg (n - (k + 1))
    case rel => exact ⟨k + 1,by omega,rfl,by go_num,HD2,Hh (row_step HW.out HG3.out HS.out),Hh ((HG.out.trans HG3.out).put (Nat.le_refl _) k _)⟩
    case measure => omega
  ·obtain rfl:n = k:=by omega
   have HJ:=Hh (join_any w.heap.size n (ds.map fun d => text d.1 d.2) wr (by rw [List.length_map];exact HN.out) (HW.out.congr fun j hj => by simp [hj]) hnb (by
    intro y hy;obtain ⟨z,hz,rfl⟩:=List.mem_map.1 hy;have:=text_len (e:=z.2) (HI.out z hz).1
    omega))
   have HD2:=HD.out;rw [List.take_of_length_le (by rw [HN.out];exact Nat.le_refl _)] at HD2
   have HV:=Hh (show decsT ds = join (ds.map fun d => text d.1 d.2) [32] by unfold decsT;rw [if_pos HD2])
   clear HD2;go_wp2_with fail;refine (HJ.out).mono ?_;rintro x w2 ⟨rfl,hg⟩;have HG2:=Hh (HG.out.trans hg);clear hg HJ;go_wp2;go_ret;exact ⟨by rw [HV.out];rfl,HG2.out⟩
open Go.RowKit Go.Lib
def cloneRen:Go.Shelf.Ren:=⟨fun | 25 => 153 | n => n,fun | 37 => 57 | 47 => 93 | n => n,fun n => n⟩
theorem cloneLays:LaysPu.n25 Tryz.prog cloneRen:={
 mixed:=by kernel_rfl
 f25:=Tryz.func153.trans (congrArg some (by kernel_rfl))
 t0:=Tryz.underlying0
 a0:=Tryz.isAgg0
 z0:=Tryz.sizeOf0
 v0:=Tryz.zeroValue0
 i0:=by kernel_rfl
 t3:=Tryz.underlying3
 a3:=Tryz.isAgg3
 z3:=Tryz.sizeOf3
 v3:=Tryz.zeroValue3
 i3:=by kernel_rfl
 t4:=Tryz.underlying4
 a4:=Tryz.isAgg4
 z4:=Tryz.sizeOf4
 v4:=Tryz.zeroValue4
 i4:=by kernel_rfl
 t5:=Tryz.underlying5
 a5:=Tryz.isAgg5
 z5:=Tryz.sizeOf5
 v5:=Tryz.zeroValue5
 i5:=by kernel_rfl
 t9:=Tryz.underlying9
 a9:=Tryz.isAgg9
 z9:=Tryz.sizeOf9
 v9:=Tryz.zeroValue9
 i9:=by kernel_rfl
 t37:=Tryz.underlying57
 a37:=Tryz.isAgg57
 z37:=Tryz.sizeOf57
 v37:=Tryz.zeroValue57
 i37:=by kernel_rfl
 t47:=Tryz.underlying93
 a47:=Tryz.isAgg93
 z47:=Tryz.sizeOf93
 v47:=Tryz.zeroValue93
 i47:=by kernel_rfl }
theorem clone_any (l:List UInt8) (w:World) (hl:l.length ≤ 1000000):Calls Tryz.prog 125 #[.string ⟨l.toArray⟩] w fun e w' => e = .returned (.string ⟨l.toArray⟩) ∧ Grow w w':=by
 have HC:=Hh (AnyPu.stringslite_Clone cloneLays ⟨l.toArray⟩ w (by rw [str_size];omega))
 go_enter Tryz.func125,Tryz.ntmps125
 go_wp2_with fail;refine (HC.out).mono ?_;rintro e w1 ⟨rfl,hg⟩;have HG:=Hh (show Grow w w1 from hg);clear hg;go_wp2;go_ret;exact ⟨rfl,HG.out⟩
def mkL:Option (List Dc × List UInt8) → List Dc × List UInt8 × Bool
 | none => ([],[],false)
 | some p => (p.1,p.2,true)
def ReadP (ds:List Dc) (r:List UInt8) (ok:Bool) (w:World) (e:Ending) (w':World):Prop :=
 ∃ A c,e = .returned (.tuple #[.slice A ds.length c,.string ⟨r.toArray⟩,.bool ok]) ∧ ds.length ≤ c ∧ Decs w' w'.heap.size A ds ∧ Grow w w'
theorem read_none {l r:List UInt8} {acc:List Dc} (h:readO l = (readO r).map fun p => (acc ++ p.1,p.2)) (h2:(oneD (r.take (npc r))).2 = false):mkL (readO l) = ([],[],false):=by
 rw [h,readO_wrong h2];rfl
theorem read_last {l r:List UInt8} {acc:List Dc} (h:readO l = (readO r).map fun p => (acc ++ p.1,p.2)) (h2:(oneD (r.take (npc r))).2 = true) (h3:nextD (r.drop (npc r)) = none) :
  mkL (readO l) = (acc ++ [(oneD (r.take (npc r))).1],r.drop (npc r),true):=by
 rw [h,readO_last h2 h3];rfl
theorem read_on {l r t:List UInt8} {acc:List Dc} (h:readO l = (readO r).map fun p => (acc ++ p.1,p.2)) (h2:(oneD (r.take (npc r))).2 = true) (h3:nextD (r.drop (npc r)) = some t) :
  readO l = (readO t).map fun p => ((acc ++ [(oneD (r.take (npc r))).1]) ++ p.1,p.2):=by
 rw [h,readO_on h2 h3]
 cases readO t with
 | none => rfl
 | some p => simp
theorem npc_pos_of {r:List UInt8} (h2:(oneD (r.take (npc r))).2 = true):0 < npc r:=by
 rcases Nat.eq_zero_or_pos (npc r) with h | h
 ·rw [h,List.take_zero,oneD_nil] at h2;cases h2
 ·exact h
theorem hasP_space (s:List UInt8):(∃ t,s = 32 :: t ∧ hasPrefix s [32] = true ∧ trimPrefix s [32] = t) ∨ (s.head? ≠ some 32 ∧ hasPrefix s [32] = false ∧ trimPrefix s [32] = s):=by
 cases s with
 | nil => exact .inr ⟨by simp,rfl,rfl⟩
 | cons c t =>
  by_cases h:c = 32
  ·subst h
   exact .inl ⟨t,rfl,by simp [hasPrefix],by simp [trimPrefix,hasPrefix]⟩
  ·have hf:hasPrefix (c :: t) [32] = false:=by
    unfold hasPrefix;show ((32:UInt8) == c && List.isPrefixOf [] t) = false;have:((32:UInt8) == c) = false:=by simpa using fun e => h e.symm
    rw [this];rfl
   exact .inr ⟨by simpa using h,hf,by unfold trimPrefix;rw [hf];simp⟩
theorem read_any (l:List UInt8) (hl:l.length ≤ 100000) (w:World) (hL:Laid w) :
  Calls Tryz.prog 96 #[.string ⟨l.toArray⟩] w (ReadP (mkL (readO l)).1 (mkL (readO l)).2.1 (mkL (readO l)).2.2 w):=by
 have HL:=Hh hL;obtain ⟨B,hB⟩:∃ B,w.heap.size = B:=⟨_,rfl⟩;have HBE:=Hh hB;clear hL hB
 go_enter Tryz.func96,Tryz.ntmps96
 go_wp2
 go_loopg [0,5] l.length (fun gk s0 s5 wr => ∃ (r:List UInt8) (acc:List Dc) (v:Value),gk = r.length ∧ s0 = .string ⟨r.toArray⟩ ∧ v = s5 ∧ Hid (OwnD B v acc wr) ∧ Hid (readO l = (readO r).map fun p => (acc ++ p.1,p.2)) ∧ acc.length + r.length ≤ l.length ∧ Hid (Below B w wr))
 case atStart => exact ⟨l,[],_,rfl,rfl,rfl,Hh (ownD_nil _ _),Hh (by simp),by simp,Hh (Below.refl _ _)⟩
 case round =>
  obtain ⟨r,acc,v,rfl,rfl,rfl,HO,HRD,hlen,HG⟩:=hrel;have hrl:r.length ≤ 1000000:=by omega
  have HZ:Hid (B ≤ wr.heap.size):=Hh (by rw [← HBE.out];exact HG.out.size)
  have HP:=Hh (fun W => pieces_any r hrl W);have hple:=npc_le r;have hst:=slice_to r (npc r) hple;have hsd:=slice_from r (npc r) hple;have HN0:=Hh (read_none HRD.out);have HN1:=Hh (read_last HRD.out);have HN2:=Hh (fun t => read_on (t:=t) HRD.out);have HPP:=Hh (npc_pos_of (r:=r));have htl:(r.take (npc r)).length ≤ 1000000:=by rw [List.length_take];omega
  have HQ:=Hh (fun W h => one_any (r.take (npc r)) htl W h);have HDL:=Hh (show (r.drop (npc r)).length = r.length - npc r by simp)
  clear HRD htl;generalize npc r = p at *;generalize oneD (r.take p) = d at *;generalize r.take p = rt at *;generalize r.drop p = rd at *;obtain ⟨⟨m,e⟩,ok⟩:=d;dsimp only at *;go_wp2_with fail;refine (HP.out _).mono ?_;rintro x w1 ⟨rfl,rfl⟩;clear HP;have HGW:Hid (Grow w w1):=Hh (by unfold Grow;rw [HBE.out];exact HG.out)
  go_wp2_with fail;refine (HQ.out _ (HL.out.grow HGW.out)).mono ?_;rintro x w2 ⟨rfl,hg⟩;have HG3:=Hh (hg.trans (grow_new w2 (.cells #[.int .i64 m,.int .i64 e] 41)));have hbx:=boxed_new w2 (.int .i64 m) (.int .i64 e) 41;have HBX:=Hh hbx;clear hg HQ hst hbx
  cases ok
  ·have HV:=Hh (HN0.out rfl)
   clear HN0 HN1 HN2 HPP;go_wp2;go_ret3;rw [HV.out];exact ⟨none,0,rfl,Nat.le_refl _,Decs.none_,HGW.out.trans HG3.out⟩
  ·have HV1:=Hh (HN1.out rfl)
   have HV2:=Hh (fun t => HN2.out t rfl);have hp0:=HPP.out rfl;have HO3:=Hh (HO.out.grow HG3.out);have HZ3:=Hh (Nat.le_trans HZ.out HG3.out.size);have HGB3:=Hh (Below.trans HG.out (Below.mono HG3.out HZ.out));clear HN0 HN1 HN2 HPP HO HG HGW;go_wp2_with fail;refine wp_region_R ((Below B)) (n:=9) rfl (by kernel_rfl) ?_
   intro W0 hW0e hW0;have HG0:Grow (w2.alloc (.cells #[.int .i64 m,.int .i64 e] 41)) W0:=hW0;have HB0:=HBX.out.grow HG0;have p0:=HB0.fst;have p1:=HB0.snd;have HO0:=Hh (HO3.out.grow HG0);have HZ0:=Hh (Nat.le_trans HZ3.out HG0.size);have HGB0:=Hh (Below.trans HGB3.out (Below.mono HG0 HZ3.out));clear hW0 HG0 HB0;clear hW0e;refine wpR_take (belowOrd B) (i:=0) (v:=?vf1) rfl (by kernel_rfl) (by kernel_rfl) (by kernel_rfl) (fun _ _ _ h => h) (by rfl) ?hf1 ?rf1
   case hf1 => (intro wg hSw;go_simp <;> with_reducible rfl)
   simp only [Act.put,List.setIfInBounds_toArray,List.set_cons_zero,List.set_cons_succ];refine wpR_take (belowOrd B) (i:=4) (v:=?vf2) rfl (by kernel_rfl) (by kernel_rfl) (by kernel_rfl) (fun _ _ _ h => h) (by rfl) ?hf2 ?rf2
   case hf2 => (intro wg hSw;go_simp <;> with_reducible rfl)
   simp only [Act.put,List.setIfInBounds_toArray,List.set_cons_zero,List.set_cons_succ];refine wpR_take (belowOrd B) (i:=5) (v:=?vf3) rfl (by kernel_rfl) (by kernel_rfl) (by kernel_rfl) (fun _ _ _ h => h) (by rfl) ?hf3 ?rf3
   case hf3 => (intro wg hSw;go_simp <;> with_reducible rfl)
   simp only [Act.put,List.setIfInBounds_toArray,List.set_cons_zero,List.set_cons_succ];refine wpR_take (belowOrd B) (i:=6) (v:=?vf4) rfl (by kernel_rfl) (by kernel_rfl) (by kernel_rfl) (fun _ _ _ h => h) (by rfl) ?hf4 ?rf4
   case hf4 => (intro wg hSw;go_simp <;> with_reducible rfl)
   simp only [Act.put,List.setIfInBounds_toArray,List.set_cons_zero,List.set_cons_succ];refine wpR_one (i:=1) (by kernel_rfl) ?_
   refine wpR_op (i:=1) rfl (by rfl) (fun K hK => ?_)
   go_simp;refine hK.out _ _ (((belowOrd B)).refl _) ?_;clear hK K
   try simp only [Act.put,List.setIfInBounds_toArray,List.set_cons_zero,List.set_cons_succ]
   refine wpR_one (i:=2) (by kernel_rfl) ?_
   refine wpR_op (i:=2) rfl (by rfl) (fun K hK => ?_)
   go_simp;refine hK.out _ _ (Below.mono (grow_new _ _) HZ0.out) ?_;clear hK K
   try simp only [Act.put,List.setIfInBounds_toArray,List.set_cons_zero,List.set_cons_succ]
   generalize hwM2:World.alloc W0 (Obj.cells #[.int .i64 m,.int .i64 e] 41) = wM2;have hN2:Grow W0 wM2:=by rw [← hwM2];exact grow_new _ _
   have hC2:Decs wM2 wM2.heap.size (some ⟨(W0).heap.size,0,none⟩) [(m,e)]:=by rw [← hwM2];exact decs_lit1 _ _ _
   have hM2:Below B W0 wM2:=Below.mono hN2 HZ0.out;have HZ2:=Hh (Nat.le_trans HZ0.out hN2.size);have HO2:=Hh (HO0.out.grow hN2);clear hwM2;refine wpR_one (i:=3) (by kernel_rfl) ?_
   refine wpR_op (i:=3) rfl (by rfl) (fun K hK => ?_)
   refine wp_more_decs _ _ rfl B v acc _ 1 1 [(m,e)] rfl HO2.out rfl rfl hC2 (by omega) HZ2.out ?_
   intro v3 wM3 hO3 hB3;have hM3:Below B wM2 wM3:=hB3.out;have hN3:=hM3;refine hK.out _ _ hM3 ?_;clear hK K
   try simp only [Act.put,List.setIfInBounds_toArray,List.set_cons_zero,List.set_cons_succ]
   refine wpR_take (belowOrd B) (i:=7) (v:=?vf5) rfl (by kernel_rfl) (by kernel_rfl) (by kernel_rfl) (fun _ _ _ h => h) (by rfl) ?hf5 ?rf5
   case hf5 => (intro wg hSw;go_simp <;> with_reducible rfl)
   simp only [Act.put,List.setIfInBounds_toArray,List.set_cons_zero,List.set_cons_succ];refine wpR_take (belowOrd B) (i:=8) (v:=?vf6) rfl (by kernel_rfl) (by kernel_rfl) (by kernel_rfl) (fun _ _ _ h => h) (by rfl) ?hf6 ?rf6
   case hf6 => (intro wg hSw;go_simp <;> with_reducible rfl)
   simp only [Act.put,List.setIfInBounds_toArray,List.set_cons_zero,List.set_cons_succ];refine wpR_done (by kernel_rfl) ?_
   have HGW:=Hh (Below.trans HGB0.out (((belowOrd B)).trans (((belowOrd B)).trans (((belowOrd B)).refl W0) hM2) hM3));have HO3':=hO3;have HRS:=Hh (Tryz.strings_CutPrefix ⟨rd.toArray⟩ ⟨#[32]⟩ wM3);rw [show (⟨rd.toArray⟩:ByteArray).data.toList = rd from rfl,show (⟨#[32]⟩:ByteArray).data.toList = [32] from rfl] at HRS;have hrdl:=HDL.out;have HCL:=Hh (fun W => clone_any rd W (by omega))
   have HEND:Hid (∀ w',Grow wM3 w' → mkL (readO l) = (acc ++ [(m,e)],rd,true) → ReadP (mkL (readO l)).1 (mkL (readO l)).2.1 (mkL (readO l)).2.2 w (.returned (.tuple #[v3,.string ⟨rd.toArray⟩,.bool true])) w'):=Hh (fun w' hw hv => by
    obtain ⟨A,c,e1,h1,h2⟩:=(hO3.out.grow hw).decs;rw [hv,e1]
    exact ⟨A,c,rfl,h1,h2,by have:=HGW.out;unfold Grow;rw [← HBE.out] at this;exact Below.trans this (Below.mono hw (by rw [HBE.out];exact Nat.le_trans HZ2.out hM3.size))⟩)
   clear hO3 hsd hM2 hM3 hN2 hN3 hC2 hB3 p0 p1
   rcases hasP_space rd with ⟨t,hrd,hp,ht⟩ | ⟨hh,hp,ht⟩
   ·rw [hp,ht] at HRS
    have HPI:=Hh (fun W => piece_any t W);have hnx:nextD rd = if npc t = 0 then none else some t:=by rw [hrd];exact nextD_space t
    have hpz:=pcD_zero t;have htl:t.length < rd.length:=by rw [hrd];simp
    obtain ⟨q,hq⟩:∃ q,pcD t = q:=⟨_,rfl⟩;rw [hq] at HPI hpz
    by_cases h0:q = 0
    ·subst h0
     have HE:=Hh (fun w' hw => HEND.out w' hw (HV1.out (by rw [hnx,if_pos (hpz.1 rfl)])))
     clear HV1 HV2 HEND hnx hpz hq hrd hp ht;go_wp2_with fail;refine (HRS.out).mono ?_;rintro x w' ⟨rfl,rfl⟩;go_wp2_with fail;refine (HPI.out _).mono ?_;rintro x w' ⟨rfl,rfl⟩;go_wp2_with fail;refine (HCL.out _).mono ?_;rintro x w6 ⟨rfl,hg⟩;have HG6:=Hh hg;clear hg;go_wp2;go_ret3;exact HE.out _ HG6.out
    ·have h0b:(((q:Nat):Int) == 0) = false:=by rw [beq_eq_false_iff_ne];omega
     have HE:=Hh (HV2.out t (by rw [hnx,if_neg (fun h => h0 (hpz.2 h))]))
     clear HV1 HV2 HEND hnx hpz hq hrd hp ht;go_wp2_with fail;refine (HRS.out).mono ?_;rintro x w' ⟨rfl,rfl⟩;go_wp2_with fail;refine (HPI.out _).mono ?_;rintro x w' ⟨rfl,rfl⟩;go_wp2;go_roundg t.length
     case rel => exact ⟨t,acc ++ [(m,e)],v3,rfl,rfl,rfl,HO3',HE,by rw [List.length_append,List.length_singleton];omega,HGW⟩
     case measure => omega
   ·rw [hp,ht] at HRS
    have HE:=Hh (fun w' hw => HEND.out w' hw (HV1.out (nextD_other hh)));clear HV1 HV2 HEND hh hp ht;go_wp2_with fail;refine (HRS.out).mono ?_;rintro x w' ⟨rfl,rfl⟩;go_wp2_with fail;refine (HCL.out _).mono ?_;rintro x w6 ⟨rfl,hg⟩;have HG6:=Hh hg;clear hg;go_wp2;go_ret3;exact HE.out _ HG6.out
end Go.Proofs.YteoogioanjkacaaGreatDoor.Num
namespace Go.Proofs.YteoogioanjkacaaGreatDoor.Quo
theorem u8_nat {n:Nat} (h:n < 256):(UInt8.ofNat n).toNat = n:=by
 rw [UInt8.toNat_ofNat'];exact Nat.mod_eq_of_lt h
theorem u8_eq {b:UInt8} {n:Nat} (h:b.toNat = n):UInt8.ofNat n = b:=by
 subst h;exact UInt8.ofNat_toNat
theorem u8_lt (b:UInt8):b.toNat < 256:=b.toNat_lt
def goesOn (b:UInt8):Bool:=decide (128 ≤ b.toNat ∧ b.toNat < 192)
def isSign (c:Nat):Bool:=decide (c ≤ 1114111 ∧ ¬ (55296 ≤ c ∧ c ≤ 57343))
def more:Nat → Nat → List UInt8 → Option Nat
 | 0,c,_ => some c
 | _ + 1,_,[] => none
 | n + 1,c,b :: r => if goesOn b then more n (64 * c + (b.toNat - 128)) r else none
def many (n least c:Nat) (r:List UInt8):Nat × Nat :=
 match more (n - 1) c r with
 | some d => if least ≤ d ∧ isSign d = true then (d,n) else (0,0)
 | none => (0,0)
def nextD:List UInt8 → Nat × Nat
 | [] => (0,0)
 | b :: r =>
  if b.toNat < 128 then (b.toNat,1)
  else if b.toNat < 192 then (0,0)
  else if b.toNat < 224 then many 2 128 (b.toNat - 192) r
  else if b.toNat < 240 then many 3 2048 (b.toNat - 224) r
  else if b.toNat < 248 then many 4 65536 (b.toNat - 240) r
  else (0,0)
def bytesD (c:Nat):List UInt8 :=
 if isSign c = true then
  if c < 128 then [UInt8.ofNat c]
  else if c < 2048 then [UInt8.ofNat (192 + c / 64),UInt8.ofNat (128 + c % 64)]
  else if c < 65536 then [UInt8.ofNat (224 + c / 4096),UInt8.ofNat (128 + c / 64 % 64),UInt8.ofNat (128 + c % 64)]
  else [UInt8.ofNat (240 + c / 262144),UInt8.ofNat (128 + c / 4096 % 64),UInt8.ofNat (128 + c / 64 % 64),UInt8.ofNat (128 + c % 64)]
 else []
theorem isSign_iff {c:Nat}:isSign c = true ↔ c ≤ 1114111 ∧ ¬ (55296 ≤ c ∧ c ≤ 57343):=by simp only [isSign,decide_eq_true_eq]
theorem goesOn_iff {b:UInt8}:goesOn b = true ↔ 128 ≤ b.toNat ∧ b.toNat < 192:=by simp only [goesOn,decide_eq_true_eq]
theorem nextD_cons (b:UInt8) (r:List UInt8):nextD (b :: r) =
  if b.toNat < 128 then (b.toNat,1)
  else if b.toNat < 192 then (0,0)
  else if b.toNat < 224 then many 2 128 (b.toNat - 192) r
  else if b.toNat < 240 then many 3 2048 (b.toNat - 224) r
  else if b.toNat < 248 then many 4 65536 (b.toNat - 240) r
  else (0,0):=rfl
theorem next_one {b:UInt8} {r:List UInt8} (h:b.toNat < 128):nextD (b :: r) = (b.toNat,1):=by
 rw [nextD_cons,if_pos h]
theorem next_two {b x:UInt8} {r:List UInt8} {c:Nat} (h0:192 ≤ b.toNat) (h1:b.toNat < 224) (hx:goesOn x = true) (hc:c = 64 * (b.toNat - 192) + (x.toNat - 128)) (hl:128 ≤ c):nextD (b :: x :: r) = (c,2):=by
 have h:=goesOn_iff.1 hx;rw [nextD_cons,if_neg (by omega),if_neg (by omega),if_pos h1]
 simp only [many,Nat.add_one_sub_one,more,hx,if_true];rw [← hc,if_pos ⟨hl,isSign_iff.2 ⟨by omega,by omega⟩⟩]
theorem next_three {b x y:UInt8} {r:List UInt8} {c:Nat} (h0:224 ≤ b.toNat) (h1:b.toNat < 240) (hx:goesOn x = true) (hy:goesOn y = true) (hc:c = 64 * (64 * (b.toNat - 224) + (x.toNat - 128)) + (y.toNat - 128)) (hl:2048 ≤ c) (hs:isSign c = true):nextD (b :: x :: y :: r) = (c,3):=by
 rw [nextD_cons,if_neg (by omega),if_neg (by omega),if_neg (by omega),if_pos h1]
 simp only [many,Nat.add_one_sub_one,more,hx,hy,if_true];rw [← hc,if_pos ⟨hl,hs⟩]
theorem next_four {b x y z:UInt8} {r:List UInt8} {c:Nat} (h0:240 ≤ b.toNat) (h1:b.toNat < 248) (hx:goesOn x = true) (hy:goesOn y = true) (hz:goesOn z = true) (hc:c = 64 * (64 * (64 * (b.toNat - 240) + (x.toNat - 128)) + (y.toNat - 128)) + (z.toNat - 128)) (hl:65536 ≤ c) (hs:isSign c = true):nextD (b :: x :: y :: z :: r) = (c,4):=by
 rw [nextD_cons,if_neg (by omega),if_neg (by omega),if_neg (by omega),if_neg (by omega),if_pos h1]
 simp only [many,Nat.add_one_sub_one,more,hx,hy,hz,if_true];rw [← hc,if_pos ⟨hl,hs⟩]
theorem goes_of {n:Nat} (h:n < 64):goesOn (UInt8.ofNat (128 + n)) = true:=by
 rw [goesOn_iff,u8_nat (by omega)]
 omega
theorem next_bytes {c:Nat} (h:isSign c = true) (r:List UInt8):nextD (bytesD c ++ r) = (c,(bytesD c).length):=by
 have hs:=isSign_iff.1 h;unfold bytesD;rw [if_pos h];split
 ·rename_i h1
  rw [List.cons_append,next_one (by rw [u8_nat (by omega)];exact h1),u8_nat (by omega)]
  rfl
 ·split
  ·rename_i h1 h2
   exact next_two (by rw [u8_nat (by omega)];omega) (by rw [u8_nat (by omega)];omega) (goes_of (by omega)) (by rw [u8_nat (by omega),u8_nat (by omega)];omega) (by omega)
  ·split
   ·rename_i h1 h2 h3
    exact next_three (by rw [u8_nat (by omega)];omega) (by rw [u8_nat (by omega)];omega) (goes_of (by omega)) (goes_of (by omega)) (by rw [u8_nat (by omega),u8_nat (by omega),u8_nat (by omega)];omega) (by omega) h
   ·rename_i h1 h2 h3
    exact next_four (by rw [u8_nat (by omega)];omega) (by rw [u8_nat (by omega)];omega) (goes_of (by omega)) (goes_of (by omega)) (goes_of (by omega)) (by rw [u8_nat (by omega),u8_nat (by omega),u8_nat (by omega),u8_nat (by omega)];omega) (by omega) h
theorem bytes_pos {c:Nat} (h:isSign c = true):1 ≤ (bytesD c).length:=by
 unfold bytesD;rw [if_pos h];split
 ·simp
 ·split
  ·simp
  ·split <;> simp
theorem bytes_le (c:Nat):(bytesD c).length ≤ 4:=by
 unfold bytesD;split
 ·split
  ·simp
  ·split
   ·simp
   ·split <;> simp
 ·simp
theorem many_not {n least c:Nat} {r:List UInt8} (h:(many n least c r).2 ≠ 0):∃ d,more (n - 1) c r = some d ∧ least ≤ d ∧ isSign d = true ∧ many n least c r = (d,n):=by
 unfold many at h ⊢
 cases hm:more (n - 1) c r with
 | none => rw [hm] at h;exact absurd rfl h
 | some d =>
  rw [hm] at h;simp only at h ⊢
  by_cases hd:least ≤ d ∧ isSign d = true
  ·exact ⟨d,rfl,hd.1,hd.2,by rw [if_pos hd]⟩
  ·rw [if_neg hd] at h;exact absurd rfl h
theorem more_some {n c d:Nat} {r:List UInt8} (h:more (n + 1) c r = some d):∃ b t,r = b :: t ∧ goesOn b = true ∧ more n (64 * c + (b.toNat - 128)) t = some d:=by
 cases r with
 | nil => exact absurd h (by simp [more])
 | cons b t =>
  unfold more at h
  by_cases hb:goesOn b = true
  ·rw [if_pos hb] at h;exact ⟨b,t,rfl,hb,h⟩
  ·rw [if_neg hb] at h;cases h
theorem more_nil {c d:Nat} {r:List UInt8} (h:more 0 c r = some d):d = c:=by
 unfold more at h;exact (Option.some.inj h).symm
theorem next_inv {l:List UInt8} (h:(nextD l).2 ≠ 0):isSign (nextD l).1 = true ∧ bytesD (nextD l).1 ++ l.drop (nextD l).2 = l ∧ (nextD l).2 = (bytesD (nextD l).1).length:=by
 cases l with
 | nil => exact absurd rfl h
 | cons b r =>
  have hb:=u8_lt b;rw [nextD_cons] at h ⊢
  by_cases h1:b.toNat < 128
  ·rw [if_pos h1]
   have hs:isSign b.toNat = true:=isSign_iff.2 ⟨by omega,by omega⟩
   have hB:bytesD b.toNat = [b]:=by unfold bytesD;rw [if_pos hs,if_pos h1,UInt8.ofNat_toNat]
   simp only [hB];exact ⟨hs,rfl,rfl⟩
  ·rw [if_neg h1] at h ⊢
   by_cases h2:b.toNat < 192
   ·rw [if_pos h2] at h;exact absurd rfl h
   ·rw [if_neg h2] at h ⊢
    by_cases h3:b.toNat < 224
    ·rw [if_pos h3] at h ⊢
     obtain ⟨d,hm,hl,hs,he⟩:=many_not h;rw [he];obtain ⟨x,t,rfl,hx,hm⟩:=more_some hm;have hd:=more_nil hm;have gx:=goesOn_iff.1 hx;have hB:bytesD d = [b,x]:=by
      unfold bytesD;rw [if_pos hs,if_neg (by omega),if_pos (by omega),u8_eq (b:=b) (by omega),u8_eq (b:=x) (by omega)]
     simp only [hB];exact ⟨hs,rfl,rfl⟩
    ·rw [if_neg h3] at h ⊢
     by_cases h4:b.toNat < 240
     ·rw [if_pos h4] at h ⊢
      obtain ⟨d,hm,hl,hs,he⟩:=many_not h;rw [he];obtain ⟨x,t,rfl,hx,hm⟩:=more_some hm;obtain ⟨y,t,rfl,hy,hm⟩:=more_some hm;have hd:=more_nil hm;have gx:=goesOn_iff.1 hx;have gy:=goesOn_iff.1 hy;have hB:bytesD d = [b,x,y]:=by
       unfold bytesD;rw [if_pos hs,if_neg (by omega),if_neg (by omega),if_pos (by omega),u8_eq (b:=b) (by omega),u8_eq (b:=x) (by omega),u8_eq (b:=y) (by omega)]
      simp only [hB];exact ⟨hs,rfl,rfl⟩
     ·rw [if_neg h4] at h ⊢
      by_cases h5:b.toNat < 248
      ·rw [if_pos h5] at h ⊢
       obtain ⟨d,hm,hl,hs,he⟩:=many_not h;rw [he];obtain ⟨x,t,rfl,hx,hm⟩:=more_some hm;obtain ⟨y,t,rfl,hy,hm⟩:=more_some hm;obtain ⟨z,t,rfl,hz,hm⟩:=more_some hm;have hd:=more_nil hm;have gx:=goesOn_iff.1 hx;have gy:=goesOn_iff.1 hy;have gz:=goesOn_iff.1 hz;have hB:bytesD d = [b,x,y,z]:=by
        unfold bytesD;rw [if_pos hs,if_neg (by omega),if_neg (by omega),if_neg (by omega),u8_eq (b:=b) (by omega),u8_eq (b:=x) (by omega),u8_eq (b:=y) (by omega),u8_eq (b:=z) (by omega)]
       simp only [hB];exact ⟨hs,rfl,rfl⟩
      ·rw [if_neg h5] at h;exact absurd rfl h
def signsF:Nat → List UInt8 → Option (List Nat)
 | _,[] => some []
 | 0,_ :: _ => none
 | k + 1,b :: r => if (nextD (b :: r)).2 = 0 then none else (signsF k ((b :: r).drop (nextD (b :: r)).2)).map ((nextD (b :: r)).1 :: ·)
def signsD (l:List UInt8):Option (List Nat):=signsF l.length l
def textD:List Nat → List UInt8
 | [] => []
 | c :: t => bytesD c ++ textD t
theorem signsF_enough:∀ (k:Nat) (l:List UInt8),l.length ≤ k → signsF k l = signsF l.length l
 | k,[],_ => by cases k <;> rfl
 | 0,b :: r,h => by simp at h
 | k + 1,b :: r,h => by
  have hk:r.length ≤ k:=by simpa using h
  show signsF (k + 1) (b :: r) = signsF (r.length + 1) (b :: r);unfold signsF
  by_cases hn:(nextD (b :: r)).2 = 0
  ·rw [if_pos hn,if_pos hn]
  ·rw [if_neg hn,if_neg hn]
   have hd:((b :: r).drop (nextD (b :: r)).2).length ≤ r.length:=by rw [List.length_drop,List.length_cons];omega
   rw [signsF_enough k _ (by omega),signsF_enough r.length _ hd]
theorem signsD_nil:signsD [] = some []:=rfl
theorem signsD_step {l:List UInt8} (hl:l ≠ []):signsD l = if (nextD l).2 = 0 then none else (signsD (l.drop (nextD l).2)).map ((nextD l).1 :: ·):=by
 cases l with
 | nil => exact absurd rfl hl
 | cons b r =>
  show signsF (r.length + 1) (b :: r) = _;rw [signsF]
  by_cases hn:(nextD (b :: r)).2 = 0
  ·rw [if_pos hn,if_pos hn]
  ·rw [if_neg hn,if_neg hn]
   have hd:((b :: r).drop (nextD (b :: r)).2).length ≤ r.length:=by rw [List.length_drop,List.length_cons];omega
   rw [signsF_enough r.length _ hd];rfl
theorem signs_cons {c:Nat} (h:isSign c = true) (r:List UInt8):signsD (bytesD c ++ r) = (signsD r).map (c :: ·):=by
 have hn:=next_bytes h r;have hp:=bytes_pos h;have hne:bytesD c ++ r ≠ []:=fun e => by
  have:=congrArg List.length e;rw [List.length_append,List.length_nil] at this;omega
 rw [signsD_step hne,hn];simp only;rw [if_neg (by omega),List.drop_left]
theorem signs_text:∀ {cs:List Nat},(∀ c ∈ cs,isSign c = true) → ∀ (r:List UInt8),signsD (textD cs ++ r) = (signsD r).map (cs ++ ·)
 | [],_,r => by
  show signsD r = _
  cases signsD r <;> rfl
 | c :: t,h,r => by
  show signsD ((bytesD c ++ textD t) ++ r) = _;rw [List.append_assoc,signs_cons (h c (by simp)),signs_text (fun d hd => h d (by simp [hd]))]
  cases signsD r <;> rfl
theorem signs_of {cs:List Nat} (h:∀ c ∈ cs,isSign c = true):signsD (textD cs) = some cs:=by
 have:=signs_text h [];rw [List.append_nil,signsD_nil] at this;rw [this];simp
theorem signs_inv:∀ {l:List UInt8} {cs:List Nat},signsD l = some cs → (∀ c ∈ cs,isSign c = true) ∧ textD cs = l
 | [],cs,h => by
  rw [signsD_nil] at h
  cases h
  exact ⟨fun c hc => absurd hc (by simp),rfl⟩
 | b :: r,cs,h => by
  rw [signsD_step (by simp)] at h
  by_cases hn:(nextD (b :: r)).2 = 0
  ·rw [if_pos hn] at h;cases h
  ·rw [if_neg hn] at h
   obtain ⟨h1,h2,h3⟩:=next_inv hn
   cases ht:signsD ((b :: r).drop (nextD (b :: r)).2) with
   | none => rw [ht] at h;cases h
   | some t =>
    rw [ht] at h;obtain ⟨i1,i2⟩:=signs_inv ht;have hcs:(nextD (b :: r)).1 :: t = cs:=Option.some.inj h;subst hcs;refine ⟨fun c hc => ?_,?_⟩
    ·rcases List.mem_cons.1 hc with rfl | hc
     ·exact h1
     ·exact i1 c hc
    ·show bytesD _ ++ textD t = _
     rw [i2,h2]
 termination_by l => l.length
 decreasing_by
 rw [List.length_drop];simp only [List.length_cons];omega
open Go.Lib
def runeD (l:List UInt8):Nat × Nat:=if (nextD l).2 = 0 then (65533,1) else nextD l
theorem runeD_of {l:List UInt8} {c n:Nat} (h:nextD l = (c,n)) (hn:n ≠ 0):runeD l = (c,n):=by
 unfold runeD;rw [h,if_neg hn]
theorem runeD_no {l:List UInt8} (h:nextD l = (0,0)):runeD l = (65533,1):=by
 unfold runeD;rw [h,if_pos rfl]
theorem goes_div {b:UInt8}:goesOn b = true ↔ b.toNat / 64 = 2:=by
 have:=u8_lt b;rw [goesOn_iff];omega
theorem next_two_no {b:UInt8} {r:List UInt8} (h0:192 ≤ b.toNat) (h1:b.toNat < 224) (h:¬ ∃ x t,r = x :: t ∧ goesOn x = true ∧ 128 ≤ 64 * (b.toNat - 192) + (x.toNat - 128)):nextD (b :: r) = (0,0):=by
 by_cases hz:(nextD (b :: r)).2 = 0
 ·rw [nextD_cons,if_neg (by omega),if_neg (by omega),if_pos h1] at hz ⊢
  unfold many at hz ⊢;split
  ·split
   ·rename_i hm hd
    rw [hm] at hz;simp only at hz;rw [if_pos hd] at hz
    cases hz
   ·rfl
  ·rfl
 ·exfalso
  rw [nextD_cons,if_neg (by omega),if_neg (by omega),if_pos h1] at hz
  obtain ⟨d,hm,hl,_,_⟩:=many_not hz;obtain ⟨x,t,rfl,hx,hm⟩:=more_some hm;have hd:=more_nil hm;exact h ⟨x,t,rfl,hx,by omega⟩
theorem next_three_no {b:UInt8} {r:List UInt8} (h0:224 ≤ b.toNat) (h1:b.toNat < 240) (h:¬ ∃ x y t,r = x :: y :: t ∧ goesOn x = true ∧ goesOn y = true ∧ 2048 ≤ 64 * (64 * (b.toNat - 224) + (x.toNat - 128)) + (y.toNat - 128) ∧ isSign (64 * (64 * (b.toNat - 224) + (x.toNat - 128)) + (y.toNat - 128)) = true):nextD (b :: r) = (0,0):=by
 by_cases hz:(nextD (b :: r)).2 = 0
 ·rw [nextD_cons,if_neg (by omega),if_neg (by omega),if_neg (by omega),if_pos h1] at hz ⊢
  unfold many at hz ⊢;split
  ·split
   ·rename_i hm hd
    rw [hm] at hz;simp only at hz;rw [if_pos hd] at hz
    cases hz
   ·rfl
  ·rfl
 ·exfalso
  rw [nextD_cons,if_neg (by omega),if_neg (by omega),if_neg (by omega),if_pos h1] at hz
  obtain ⟨d,hm,hl,hs,_⟩:=many_not hz;obtain ⟨x,t,rfl,hx,hm⟩:=more_some hm;obtain ⟨y,t,rfl,hy,hm⟩:=more_some hm;have hd:=more_nil hm;subst hd;exact h ⟨x,y,t,rfl,hx,hy,hl,hs⟩
theorem next_four_no {b:UInt8} {r:List UInt8} (h0:240 ≤ b.toNat) (h1:b.toNat < 248) (h:¬ ∃ x y z t,r = x :: y :: z :: t ∧ goesOn x = true ∧ goesOn y = true ∧ goesOn z = true ∧ 65536 ≤ 64 * (64 * (64 * (b.toNat - 240) + (x.toNat - 128)) + (y.toNat - 128)) + (z.toNat - 128) ∧ isSign (64 * (64 * (64 * (b.toNat - 240) + (x.toNat - 128)) + (y.toNat - 128)) + (z.toNat - 128)) = true):nextD (b :: r) = (0,0):=by
 by_cases hz:(nextD (b :: r)).2 = 0
 ·rw [nextD_cons,if_neg (by omega),if_neg (by omega),if_neg (by omega),if_neg (by omega),if_pos h1] at hz ⊢
  unfold many at hz ⊢;split
  ·split
   ·rename_i hm hd
    rw [hm] at hz;simp only at hz;rw [if_pos hd] at hz
    cases hz
   ·rfl
  ·rfl
 ·exfalso
  rw [nextD_cons,if_neg (by omega),if_neg (by omega),if_neg (by omega),if_neg (by omega),if_pos h1] at hz
  obtain ⟨d,hm,hl,hs,_⟩:=many_not hz;obtain ⟨x,t,rfl,hx,hm⟩:=more_some hm;obtain ⟨y,t,rfl,hy,hm⟩:=more_some hm;obtain ⟨z,t,rfl,hz,hm⟩:=more_some hm;have hd:=more_nil hm;subst hd;exact h ⟨x,y,z,t,rfl,hx,hy,hz,hl,hs⟩
theorem decode_next (l:List UInt8) (hne:l ≠ []):decodeL l = runeD l:=by
 rw [decodeL_N]
 rcases l with _ | ⟨b,r⟩
 ·exact absurd rfl hne
 have hb:=u8_lt b;simp only [List.length_cons,List.getD_cons_zero,List.getD_cons_succ];unfold decodeN
 by_cases h1:b.toNat < 128
 ·rw [if_pos h1,runeD_of (next_one h1) (by omega)]
 rw [if_neg h1]
 by_cases h2:b.toNat < 192
 ·rw [if_neg (by omega),if_neg (by omega),if_neg (by omega),runeD_no (by rw [nextD_cons,if_neg h1,if_pos h2])]
 by_cases h3:b.toNat < 224
 ·by_cases hx:∃ x t,r = x :: t ∧ goesOn x = true
  ·obtain ⟨x,t,rfl,hx⟩:=hx
   have gx:=goesOn_iff.1 hx;simp only [List.length_cons,List.getD_cons_zero];rw [if_pos (by omega)]
   by_cases hl:128 ≤ 64 * (b.toNat - 192) + (x.toNat - 128)
   ·rw [if_pos (by omega),runeD_of (next_two (by omega) h3 hx rfl hl) (by omega)]
    simp only [Prod.mk.injEq,and_true];omega
   ·rw [if_neg (by omega),runeD_no (next_two_no (by omega) h3 (by rintro ⟨_,_,e,_,h⟩;cases e;exact hl h))]
  ·rw [if_neg,if_neg (by omega),if_neg (by omega),runeD_no (next_two_no (by omega) h3 (by rintro ⟨x,t,e,h,_⟩;exact hx ⟨x,t,e,h⟩))]
   rintro ⟨_,hn,hq⟩
   rcases r with _ | ⟨x,t⟩
   ·simp at hn
   ·exact hx ⟨x,t,rfl,goes_div.2 hq⟩
 by_cases h4:b.toNat < 240
 ·rw [if_neg (by omega)]
  by_cases hx:∃ x y t,r = x :: y :: t ∧ goesOn x = true ∧ goesOn y = true
  ·obtain ⟨x,y,t,rfl,hx,hy⟩:=hx
   have gx:=goesOn_iff.1 hx;have gy:=goesOn_iff.1 hy;simp only [List.length_cons,List.getD_cons_zero,List.getD_cons_succ];rw [if_pos (by omega)]
   by_cases hl:2048 ≤ 64 * (64 * (b.toNat - 224) + (x.toNat - 128)) + (y.toNat - 128) ∧ isSign (64 * (64 * (b.toNat - 224) + (x.toNat - 128)) + (y.toNat - 128)) = true
   ·have hs:=isSign_iff.1 hl.2
    rw [if_pos (by omega),runeD_of (next_three (by omega) h4 hx hy rfl hl.1 hl.2) (by omega)]
    simp only [Prod.mk.injEq,and_true];omega
   ·have hl':=hl
    rw [isSign_iff] at hl';rw [if_neg (by omega),runeD_no (next_three_no (by omega) h4 (by rintro ⟨_,_,_,e,_,_,h⟩;cases e;exact hl h))]
  ·rw [if_neg,if_neg (by omega),runeD_no (next_three_no (by omega) h4 (by rintro ⟨x,y,t,e,h,k,_⟩;exact hx ⟨x,y,t,e,h,k⟩))]
   rintro ⟨_,⟨hn,hq⟩,hm,hp⟩
   rcases r with _ | ⟨x,_ | ⟨y,t⟩⟩
   ·simp at hn
   ·simp at hm
   ·exact hx ⟨x,y,t,rfl,goes_div.2 hq,goes_div.2 hp⟩
 rw [if_neg (by omega),if_neg (by omega)]
 by_cases h5:b.toNat < 248
 ·by_cases hx:∃ x y z t,r = x :: y :: z :: t ∧ goesOn x = true ∧ goesOn y = true ∧ goesOn z = true
  ·obtain ⟨x,y,z,t,rfl,hx,hy,hz⟩:=hx
   have gx:=goesOn_iff.1 hx;have gy:=goesOn_iff.1 hy;have gz:=goesOn_iff.1 hz;simp only [List.length_cons,List.getD_cons_zero,List.getD_cons_succ];rw [if_pos (by omega)]
   by_cases hl:65536 ≤ 64 * (64 * (64 * (b.toNat - 240) + (x.toNat - 128)) + (y.toNat - 128)) + (z.toNat - 128) ∧ isSign (64 * (64 * (64 * (b.toNat - 240) + (x.toNat - 128)) + (y.toNat - 128)) + (z.toNat - 128)) = true
   ·have hs:=isSign_iff.1 hl.2
    rw [if_pos (by omega),runeD_of (next_four (by omega) h5 hx hy hz rfl hl.1 hl.2) (by omega)]
    simp only [Prod.mk.injEq,and_true];omega
   ·have hl':=hl
    rw [isSign_iff] at hl';rw [if_neg (by omega),runeD_no (next_four_no (by omega) h5 (by rintro ⟨_,_,_,_,e,_,_,_,h⟩;cases e;exact hl h))]
  ·rw [if_neg,runeD_no (next_four_no (by omega) h5 (by rintro ⟨x,y,z,t,e,h,k,m,_⟩;exact hx ⟨x,y,z,t,e,h,k,m⟩))]
   rintro ⟨_,⟨hn,hq⟩,⟨hm,hp⟩,hk,ho⟩
   rcases r with _ | ⟨x,_ | ⟨y,_ | ⟨z,t⟩⟩⟩
   ·simp at hn
   ·simp at hm
   ·simp at hk
   ·exact hx ⟨x,y,z,t,rfl,goes_div.2 hq,goes_div.2 hp,goes_div.2 ho⟩
 ·rw [if_neg (by omega),runeD_no (by rw [nextD_cons,if_neg h1,if_neg h2,if_neg h3,if_neg h4,if_neg h5])]
theorem decode_at_rune (s:ByteArray) (pos:Nat) (h:pos < s.size):Utf8.decode s pos = runeD (s.data.toList.drop pos):=by
 rw [← decodeL_drop];refine decode_next _ fun e => ?_;have:=congrArg List.length e;rw [List.length_drop,← size_eq] at this;simp at this;omega
def qC (c:Nat):List UInt8:=if c = 39 then [39,39] else bytesD c
def qT:List Nat → List UInt8
 | [] => []
 | c :: t => qC c ++ qT t
def inQ (cs:List Nat):List UInt8:=39 :: (qT cs ++ [39])
def fstQ:List UInt8 → Nat × Nat
 | [] => (0,0)
 | b :: r => if b = 39 then (if r.head? = some 39 then (39,2) else (0,0)) else nextD (b :: r)
def bodyF:Nat → List UInt8 → List Nat × List UInt8
 | 0,l => ([],l)
 | k + 1,l => if (fstQ l).2 = 0 then ([],l) else ((fstQ l).1 :: (bodyF k (l.drop (fstQ l).2)).1,(bodyF k (l.drop (fstQ l).2)).2)
def bodyD (l:List UInt8):List Nat × List UInt8:=bodyF (l.length + 1) l
def endQ (p:List Nat × List UInt8):Option (List Nat × List UInt8) :=
 match p.2 with
 | b :: r => if b = 39 then some (p.1,r) else none
 | [] => none
def readQ:List UInt8 → Option (List Nat × List UInt8)
 | b :: r => if b = 39 then endQ (bodyD r) else none
 | [] => none
theorem fstQ_cons (b:UInt8) (r:List UInt8):fstQ (b :: r) = if b = 39 then (if r.head? = some 39 then (39,2) else (0,0)) else nextD (b :: r):=rfl
theorem bodyF_succ (k:Nat) (l:List UInt8):bodyF (k + 1) l = if (fstQ l).2 = 0 then ([],l) else ((fstQ l).1 :: (bodyF k (l.drop (fstQ l).2)).1,(bodyF k (l.drop (fstQ l).2)).2):=rfl
theorem readQ_cons (b:UInt8) (r:List UInt8):readQ (b :: r) = if b = 39 then endQ (bodyD r) else none:=rfl
theorem endQ_cons (cs:List Nat) (b:UInt8) (r:List UInt8):endQ (cs,b :: r) = if b = 39 then some (cs,r) else none:=rfl
theorem bytes39:bytesD 39 = [39]:=by decide
theorem qC_39:qC 39 = [39,39]:=rfl
theorem qC_other {c:Nat} (h:c ≠ 39):qC c = bytesD c:=by unfold qC;rw [if_neg h]
theorem qC_pos {c:Nat} (h:isSign c = true):1 ≤ (qC c).length:=by
 unfold qC;split
 ·simp
 ·exact bytes_pos h
theorem qC_le (c:Nat):(qC c).length ≤ 4:=by
 unfold qC;split
 ·simp
 ·exact bytes_le c
theorem qT_append (a b:List Nat):qT (a ++ b) = qT a ++ qT b:=by
 induction a with
 | nil => rfl
 | cons c t ih => show qC c ++ qT (t ++ b) = (qC c ++ qT t) ++ qT b;rw [ih,List.append_assoc]
theorem qT_le (cs:List Nat):(qT cs).length ≤ 4 * cs.length:=by
 induction cs with
 | nil => simp [qT]
 | cons c t ih =>
  have:=qC_le c;show (qC c ++ qT t).length ≤ _;rw [List.length_append,List.length_cons];omega
theorem inQ_len (cs:List Nat):(inQ cs).length = (qT cs).length + 2:=by unfold inQ;simp
theorem fst_of {c:Nat} (h:isSign c = true) (r:List UInt8):fstQ (qC c ++ r) = (c,(qC c).length):=by
 by_cases h39:c = 39
 ·subst h39
  rfl
 ·rw [qC_other h39,← next_bytes h r]
  have hp:=bytes_pos h
  cases hb:bytesD c with
  | nil => rw [hb] at hp;simp at hp
  | cons b t =>
   show fstQ (b :: (t ++ r)) = _;rw [fstQ_cons,if_neg,List.cons_append];rintro rfl;have hn:=next_bytes h r;rw [hb,List.cons_append,next_one (by decide)] at hn
   exact h39 (Prod.mk.inj hn).1.symm
theorem fst_one (r:List UInt8) (h:r.head? ≠ some 39):(fstQ (39 :: r)).2 = 0:=by
 rw [fstQ_cons,if_pos rfl,if_neg h]
theorem fst_le {l:List UInt8} (h:(fstQ l).2 ≠ 0):isSign (fstQ l).1 = true ∧ qC (fstQ l).1 ++ l.drop (fstQ l).2 = l ∧ (fstQ l).2 = (qC (fstQ l).1).length:=by
 cases l with
 | nil => exact absurd rfl h
 | cons b r =>
  by_cases hb:b = 39
  ·subst hb
   have e:fstQ (39 :: r) = if r.head? = some 39 then (39,2) else (0,0):=by rw [fstQ_cons,if_pos rfl]
   rw [e] at h ⊢
   by_cases hr:r.head? = some 39
   ·rw [if_pos hr]
    cases r with
    | nil => cases hr
    | cons x t =>
     have hx:x = 39:=by simpa using hr
     subst hx;exact ⟨rfl,rfl,rfl⟩
   ·rw [if_neg hr] at h
    exact absurd rfl h
  ·have e:fstQ (b :: r) = nextD (b :: r):=by rw [fstQ_cons,if_neg hb]
   rw [e] at h ⊢;obtain ⟨h1,h2,h3⟩:=next_inv h;have hn:(nextD (b :: r)).1 ≠ 39:=by
    intro e;rw [e,bytes39] at h2;have:=(List.cons.inj h2).1;exact hb this.symm
   rw [qC_other hn];exact ⟨h1,h2,h3⟩
theorem fst_drop {l:List UInt8} (h:(fstQ l).2 ≠ 0):(fstQ l).2 ≤ l.length ∧ (l.drop (fstQ l).2).length < l.length:=by
 obtain ⟨h1,h2,h3⟩:=fst_le h;have hp:=qC_pos h1;have:=congrArg List.length h2;rw [List.length_append,List.length_drop] at this;rw [List.length_drop];omega
theorem bodyF_enough:∀ (k:Nat) (l:List UInt8),l.length < k → bodyF k l = bodyF (l.length + 1) l
 | 0,l,h => by omega
 | k + 1,l,h => by
  rw [bodyF_succ,bodyF_succ]
  by_cases hn:(fstQ l).2 = 0
  ·rw [if_pos hn,if_pos hn]
  ·rw [if_neg hn,if_neg hn]
   have hd:=(fst_drop hn).2;rw [bodyF_enough k _ (by omega),bodyF_enough l.length _ hd]
theorem body_stop {l:List UInt8} (h:(fstQ l).2 = 0):bodyD l = ([],l):=by
 unfold bodyD;rw [bodyF_succ,if_pos h]
theorem body_step {l:List UInt8} (h:(fstQ l).2 ≠ 0):bodyD l = ((fstQ l).1 :: (bodyD (l.drop (fstQ l).2)).1,(bodyD (l.drop (fstQ l).2)).2):=by
 have e:bodyD l = if (fstQ l).2 = 0 then ([],l) else ((fstQ l).1 :: (bodyF l.length (l.drop (fstQ l).2)).1,(bodyF l.length (l.drop (fstQ l).2)).2):=rfl
 rw [e,if_neg h,bodyF_enough l.length _ (fst_drop h).2];rfl
theorem body_text:∀ {cs:List Nat},(∀ c ∈ cs,isSign c = true) → ∀ (r:List UInt8),(fstQ r).2 = 0 → bodyD (qT cs ++ r) = (cs,r)
 | [],_,r,h => body_stop h
 | c :: t,hc,r,h => by
  have hs:=hc c (by simp)
  have hf:=fst_of hs (qT t ++ r);have hp:=qC_pos hs;show bodyD ((qC c ++ qT t) ++ r) = _;rw [List.append_assoc,body_step (by rw [hf];simp only;omega),hf]
  simp only;rw [List.drop_left,body_text (fun d hd => hc d (by simp [hd])) r h]
theorem body_inv:∀ (n:Nat) {l:List UInt8},l.length ≤ n → (∀ c ∈ (bodyD l).1,isSign c = true) ∧ qT (bodyD l).1 ++ (bodyD l).2 = l ∧ (fstQ (bodyD l).2).2 = 0:=by
 intro n
 induction n with
 | zero =>
  intro l hl;have:l = []:=List.eq_nil_of_length_eq_zero (by omega)
  subst this;exact ⟨fun c hc => absurd hc (by simp [bodyD,bodyF,fstQ]),rfl,rfl⟩
 | succ n ih =>
  intro l hl
  by_cases h:(fstQ l).2 = 0
  ·rw [body_stop h]
   exact ⟨fun c hc => absurd hc (by simp),rfl,h⟩
  ·obtain ⟨h1,h2,h3⟩:=fst_le h
   obtain ⟨i1,i2,i3⟩:=ih (l:=l.drop (fstQ l).2) (by have:=(fst_drop h).2;omega)
   rw [body_step h];refine ⟨fun c hc => ?_,?_,i3⟩
   ·rcases List.mem_cons.1 hc with rfl | hc
    ·exact h1
    ·exact i1 c hc
   ·show (qC (fstQ l).1 ++ qT (bodyD (l.drop (fstQ l).2)).1) ++ (bodyD (l.drop (fstQ l).2)).2 = l
    rw [List.append_assoc,i2,h2]
theorem read_of {cs:List Nat} (h:∀ c ∈ cs,isSign c = true) {r:List UInt8} (hr:r.head? ≠ some 39):readQ (inQ cs ++ r) = some (cs,r):=by
 have e:inQ cs ++ r = 39 :: (qT cs ++ 39 :: r):=by unfold inQ;simp
 rw [e];rw [readQ_cons,if_pos rfl,body_text h _ (fst_one r hr),endQ_cons,if_pos rfl]
theorem read_inv {l r:List UInt8} {cs:List Nat} (h:readQ l = some (cs,r)):(∀ c ∈ cs,isSign c = true) ∧ inQ cs ++ r = l ∧ r.head? ≠ some 39:=by
 cases l with
 | nil => cases h
 | cons b t =>
  rw [readQ_cons] at h
  by_cases hb:b = 39
  ·subst hb
   rw [if_pos rfl] at h;obtain ⟨i1,i2,i3⟩:=body_inv t.length (l:=t) (Nat.le_refl _)
   cases hq:(bodyD t).2 with
   | nil =>
    have e:bodyD t = ((bodyD t).1,[]):=Prod.ext rfl hq;rw [e] at h
    cases h
   | cons x u =>
    have e:bodyD t = ((bodyD t).1,x :: u):=Prod.ext rfl hq;rw [e,endQ_cons] at h;rw [hq] at i2 i3
    by_cases hx:x = 39
    ·subst hx
     rw [if_pos rfl] at h;have h':=Option.some.inj h;have e1:(bodyD t).1 = cs:=(Prod.mk.inj h').1;have e2:u = r:=(Prod.mk.inj h').2;subst e2;rw [e1] at i1 i2;refine ⟨i1,?_,?_⟩
     ·rw [← i2];unfold inQ;simp
     ·intro hu
      rw [fstQ_cons,if_pos rfl,if_pos hu] at i3
      cases i3
    ·rw [if_neg hx] at h;cases h
  ·rw [if_neg hb] at h;cases h
def scanQ:List UInt8 → Option (List UInt8 × List UInt8)
 | [] => none
 | b :: r => if b = 39 then (match r with
   | x :: t => if x = 39 then (scanQ t).map (fun p => (39 :: p.1,p.2)) else some ([],x :: t)
   | [] => some ([],[]))
  else (scanQ r).map (fun p => (b :: p.1,p.2))
def refQ (l:List UInt8):Option (List Nat × List UInt8):=(scanQ l).bind fun p => (signsD p.1).map fun cs => (cs,p.2)
def dbl:List UInt8 → List UInt8
 | [] => []
 | b :: r => if b = 39 then 39 :: 39 :: dbl r else b :: dbl r
theorem dbl_cons (b:UInt8) (r:List UInt8):dbl (b :: r) = if b = 39 then 39 :: 39 :: dbl r else b :: dbl r:=rfl
theorem scan_other {b:UInt8} {r:List UInt8} (h:b ≠ 39):scanQ (b :: r) = (scanQ r).map (fun p => (b :: p.1,p.2)):=by
 rw [scanQ.eq_def];simp only;rw [if_neg h]
theorem scan_two (t:List UInt8):scanQ (39 :: 39 :: t) = (scanQ t).map (fun p => (39 :: p.1,p.2)):=by
 rw [scanQ.eq_def];simp
theorem scan_end {r:List UInt8} (h:r.head? ≠ some 39):scanQ (39 :: r) = some ([],r):=by
 rw [scanQ.eq_def]
 cases r with
 | nil => simp
 | cons x t =>
  have hx:x ≠ 39:=by simpa using h
  simp [hx]
theorem scan_of:∀ (x:List UInt8) {r:List UInt8},r.head? ≠ some 39 → scanQ (dbl x ++ 39 :: r) = some (x,r)
 | [],r,h => scan_end h
 | b :: t,r,h => by
  rw [dbl_cons]
  by_cases hb:b = 39
  ·subst hb
   rw [if_pos rfl];show scanQ (39 :: 39 :: (dbl t ++ 39 :: r)) = _;rw [scan_two,scan_of t h];rfl
  ·rw [if_neg hb]
   show scanQ (b :: (dbl t ++ 39 :: r)) = _;rw [scan_other hb,scan_of t h];rfl
theorem scan_inv:∀ (n:Nat) {l x r:List UInt8},l.length ≤ n → scanQ l = some (x,r) → dbl x ++ 39 :: r = l ∧ r.head? ≠ some 39:=by
 intro n
 induction n with
 | zero =>
  intro l x r hl h;have:l = []:=List.eq_nil_of_length_eq_zero (by omega)
  subst this;rw [scanQ.eq_def] at h
  cases h
 | succ n ih =>
  intro l x r hl h
  cases l with
  | nil => rw [scanQ.eq_def] at h;cases h
  | cons b t =>
   have hlt:t.length ≤ n:=by simpa using hl
   by_cases hb:b = 39
   ·subst hb
    by_cases ht:t.head? = some 39
    ·cases t with
     | nil => cases ht
     | cons y u =>
      have hy:y = 39:=by simpa using ht
      subst hy;rw [scan_two] at h
      cases hs:scanQ u with
      | none => rw [hs] at h;cases h
      | some p =>
       rw [hs] at h;have h':=Option.some.inj h;have e1:=(Prod.mk.inj h').1;have e2:=(Prod.mk.inj h').2;subst e1 e2;obtain ⟨i1,i2⟩:=ih (l:=u) (x:=p.1) (r:=p.2) (by simp only [List.length_cons] at hlt;omega) hs
       refine ⟨?_,i2⟩;show 39 :: 39 :: (dbl p.1 ++ 39 :: p.2) = _;rw [i1]
    ·rw [scan_end ht] at h
     have h':=Option.some.inj h;have e1:=(Prod.mk.inj h').1;have e2:=(Prod.mk.inj h').2;subst e1 e2;exact ⟨rfl,ht⟩
   ·rw [scan_other hb] at h
    cases hs:scanQ t with
    | none => rw [hs] at h;cases h
    | some p =>
     rw [hs] at h;have h':=Option.some.inj h;have e1:=(Prod.mk.inj h').1;have e2:=(Prod.mk.inj h').2;subst e1 e2;obtain ⟨i1,i2⟩:=ih (l:=t) (x:=p.1) (r:=p.2) hlt hs;refine ⟨?_,i2⟩;rw [dbl_cons,if_neg hb];show b :: (dbl p.1 ++ 39 :: p.2) = _;rw [i1]
theorem dbl_append (a b:List UInt8):dbl (a ++ b) = dbl a ++ dbl b:=by
 induction a with
 | nil => rfl
 | cons c t ih =>
  rw [List.cons_append,dbl_cons,dbl_cons];split
  ·rw [ih];simp
  ·rw [ih];simp
theorem dbl_none {l:List UInt8} (h:∀ b ∈ l,b ≠ 39):dbl l = l:=by
 induction l with
 | nil => rfl
 | cons b t ih =>
  rw [dbl_cons,if_neg (h b (by simp)),ih (fun c hc => h c (by simp [hc]))]
theorem ne39 {n:Nat} (h:n < 256) (h2:n ≠ 39):UInt8.ofNat n ≠ 39:=by
 intro e;have:=congrArg UInt8.toNat e;rw [u8_nat h] at this;exact h2 this
theorem bytes_none {c:Nat} (h:c ≠ 39):∀ b ∈ bytesD c,b ≠ 39:=by
 intro b hb;unfold bytesD at hb;split at hb
 ·rename_i hs
  have hs:=isSign_iff.1 hs;split at hb
  ·simp only [List.mem_cons,List.not_mem_nil,or_false] at hb
   subst hb;exact ne39 (by omega) h
  ·split at hb
   ·simp only [List.mem_cons,List.not_mem_nil,or_false] at hb
    rcases hb with rfl | rfl <;> exact ne39 (by omega) (by omega)
   ·split at hb
    ·simp only [List.mem_cons,List.not_mem_nil,or_false] at hb
     rcases hb with rfl | rfl | rfl <;> exact ne39 (by omega) (by omega)
    ·simp only [List.mem_cons,List.not_mem_nil,or_false] at hb
     rcases hb with rfl | rfl | rfl | rfl <;> exact ne39 (by omega) (by omega)
 ·simp at hb
theorem dbl_bytes (c:Nat):dbl (bytesD c) = qC c:=by
 by_cases h:c = 39
 ·subst h;decide
 ·rw [qC_other h,dbl_none (bytes_none h)]
theorem dbl_text (cs:List Nat):dbl (textD cs) = qT cs:=by
 induction cs with
 | nil => rfl
 | cons c t ih =>
  show dbl (bytesD c ++ textD t) = qC c ++ qT t;rw [dbl_append,dbl_bytes,ih]
theorem read_ref (l:List UInt8):endQ (bodyD l) = refQ l:=by
 have hA:∀ p,readQ (39 :: l) = some p ↔ refQ l = some p:=by
  rintro ⟨cs,r⟩;constructor
  ·intro h
   obtain ⟨h1,h2,h3⟩:=read_inv h;have e:dbl (textD cs) ++ 39 :: r = l:=by
    rw [dbl_text];have:inQ cs ++ r = 39 :: (qT cs ++ 39 :: r):=by unfold inQ;simp
    rw [this] at h2;exact (List.cons.inj h2).2
   unfold refQ;rw [← e,scan_of _ h3];simp [signs_of h1]
  ·intro h
   unfold refQ at h
   cases hs:scanQ l with
   | none => rw [hs] at h;cases h
   | some p =>
    rw [hs] at h;simp only [Option.bind_some] at h
    cases hg:signsD p.1 with
    | none => rw [hg] at h;cases h
    | some ds =>
     rw [hg] at h;have h':=Option.some.inj h;have e1:=(Prod.mk.inj h').1;have e2:=(Prod.mk.inj h').2;subst e1 e2;obtain ⟨k1,k2⟩:=signs_inv hg;obtain ⟨i1,i2⟩:=scan_inv l.length (l:=l) (x:=p.1) (r:=p.2) (Nat.le_refl _) hs;have e:39 :: l = inQ ds ++ p.2:=by
      rw [← i1,← k2,dbl_text];unfold inQ;simp
     rw [e];exact read_of k1 i2
 have hB:readQ (39 :: l) = endQ (bodyD l):=by rw [readQ_cons,if_pos rfl]
 rw [hB] at hA
 cases h1:endQ (bodyD l) with
 | some p => exact ((hA p).1 h1).symm
 | none =>
  cases h2:refQ l with
  | none => rfl
  | some p => rw [(hA p).2 h2] at h1;cases h1
def signZ (x:Int):Bool:=decide (0 ≤ x ∧ x ≤ 1114111 ∧ ¬ (55296 ≤ x ∧ x ≤ 57343))
def natsZ (xs:List Int):List Nat:=xs.map Int.toNat
def intsZ (cs:List Nat):List Int:=cs.map fun (c:Nat) => (c:Int)
theorem signZ_iff {x:Int}:signZ x = true ↔ 0 ≤ x ∧ x ≤ 1114111 ∧ ¬ (55296 ≤ x ∧ x ≤ 57343):=by simp only [signZ,decide_eq_true_eq]
theorem signZ_nat {x:Int} (h:signZ x = true):isSign x.toNat = true ∧ ((x.toNat:Nat):Int) = x:=by
 have:=signZ_iff.1 h;exact ⟨isSign_iff.2 ⟨by omega,by omega⟩,by omega⟩
theorem signZ_of {c:Nat} (h:isSign c = true):signZ (c:Int) = true:=by
 have:=isSign_iff.1 h;exact signZ_iff.2 ⟨by omega,by omega,by omega⟩
theorem ints_nats {xs:List Int} (h:xs.all signZ = true):intsZ (natsZ xs) = xs:=by
 induction xs with
 | nil => rfl
 | cons x t ih =>
  rw [List.all_cons,Bool.and_eq_true] at h;show ((x.toNat:Nat):Int) :: intsZ (natsZ t) = _;rw [(signZ_nat h.1).2,ih h.2]
theorem nats_sign {xs:List Int} (h:xs.all signZ = true):∀ c ∈ natsZ xs,isSign c = true:=by
 intro c hc;obtain ⟨x,hx,rfl⟩:=List.mem_map.1 hc;exact (signZ_nat (List.all_eq_true.1 h x hx)).1
theorem all_ints {cs:List Nat} (h:∀ c ∈ cs,isSign c = true):(intsZ cs).all signZ = true:=by
 rw [List.all_eq_true];intro x hx;obtain ⟨c,hc,rfl⟩:=List.mem_map.1 hx;exact signZ_of (h c hc)
theorem nats_append (a b:List Int):natsZ (a ++ b) = natsZ a ++ natsZ b:=by simp [natsZ]
theorem ints_append (a b:List Nat):intsZ (a ++ b) = intsZ a ++ intsZ b:=by simp [intsZ]
theorem nats_len (xs:List Int):(natsZ xs).length = xs.length:=by simp [natsZ]
theorem ints_len (cs:List Nat):(intsZ cs).length = cs.length:=by simp [intsZ]
def textQ (xs:List Int):List UInt8:=if xs.all signZ = true then inQ (natsZ xs) else []
open Go.RowKit Go.Lib
theorem heap_lt {w:World} {b:Nat} {o:Obj} (h:w.heap[b]? = some o):b < w.heap.size:=(Array.getElem?_eq_some_iff.1 h).1
def ivs (xs:List Int):List Value:=xs.map fun x => .int .i64 x
def Src (w:World) (A:Option Addr) (vs:List Value):Prop:=0 < vs.length → ∃ ad,A = some ad ∧ ∀ j u,vs[j]? = some u → w.cell? (ad.add j) = some u
def Ones (vs:List Value):Prop:=∀ u ∈ vs,u.oneCell' = true
theorem info_of {P:Program} {e:TypeId} {z:Value} {size bytes:Nat} (h:(P.info? e).map (fun i => (i.zero,i.size,i.bytes)) = some (some z,size,bytes)):∃ i,P.info? e = some i ∧ i.zero = some z ∧ i.size = size ∧ i.bytes = bytes:=by
 obtain ⟨i,hi,hz⟩:=Option.map_eq_some_iff.1 h;simp only [Prod.mk.injEq] at hz;exact ⟨i,hi,hz.1,hz.2.1,hz.2.2⟩
theorem info_int:(Tryz.prog.info? 3).map (fun i => (i.zero,i.size,i.bytes)) = some (some (.int .i64 0),1,8):=by kernel_rfl
theorem ivs_len (xs:List Int):(ivs xs).length = xs.length * 1:=by simp [ivs]
theorem ivs_one (xs:List Int):Ones (ivs xs):=fun u hu => by
 obtain ⟨x,_,rfl⟩:=List.mem_map.1 hu;rfl
theorem addr_add (b off j:Nat):(⟨b,off,none⟩:Addr).add j = ⟨b,off + j,none⟩:=by unfold Addr.add;split <;> simp_all
theorem src_nums {w:World} {B:Nat} {A:Option Addr} {xs:List Int} (h:Nums .i64 w B A xs):Src w A (ivs xs):=fun hp => by
 rw [ivs_len,Nat.mul_one] at hp;obtain ⟨b,off,rfl,_,hc⟩:=h hp;refine ⟨_,rfl,fun j u hj => ?_⟩;have hl:j < xs.length:=by
  have:=(List.getElem?_eq_some_iff.1 hj).1;rw [ivs_len] at this;omega
 rw [addr_add,hc j hl,← hj];simp [ivs,hl]
theorem ivs_app (a b:List Int):ivs (a ++ b) = ivs a ++ ivs b:=by simp [ivs]
theorem ownsRow_grow {w w':World} {base size n:Nat} {t:TypeId} {v:Value} {vals:List Value} (ho:w.ownsRow base t size v n vals) (hg:Grow w w'):w'.ownsRow base t size v n vals :=
 ⟨ho.1,by
  rcases ho.2 with h0 | ⟨g',cap',cur,hv,hbg,hgg,rest⟩
  ·exact .inl h0
  ·exact .inr ⟨g',cap',cur,hv,hbg,(hg.block g' (heap_lt hgg)).trans hgg,rest⟩⟩
theorem run_append_empty (t ty e:TypeId) (i:TypeInfo) (ht:Tryz.prog.underlying t = some (.slice e)) (hi:Tryz.prog.info? e = some i) (w:World) (B size n:Nat) (v:Value) (xs:List Value)
  (hv:w.ownsRow B e size v n xs) (A:Option Addr) (c:Nat) :
  (Builtin.append_ #[t,t] ty #[v,.slice A 0 c]).run Tryz.prog w = .ok v w:=by
 rcases hv.2 with ⟨rfl,rfl⟩ | ⟨g,cap,cur,rfl,_,_,hnc,_⟩
 ·cases A <;> simp [Builtin.append_,run_underlying ht,sizeOf,typeInfo,hi,Builtin.lenOf,Builtin.firstCells,loadCells,loadCellsFrom,storeCells]
 ·cases A <;> simp [Builtin.append_,run_underlying ht,sizeOf,typeInfo,hi,Builtin.lenOf,Builtin.firstCells,loadCells,loadCellsFrom,storeCells,hnc]
theorem run_append_any (w:World) (B:Nat) (t ty e:TypeId) (i:TypeInfo) (z:Value) (size bytes:Nat) (ht:Tryz.prog.underlying t = some (.slice e)) (hi:Tryz.prog.info? e = some i) (hz:i.zero = some z)
  (hsize:i.size = size) (hby:i.bytes = bytes) (hzs:z.cells.size = size) (hsz:0 < size) (v:Value) (n:Nat) (xs:List Value) (hown:w.ownsRow B e size v n xs)
  (A:Option Addr) (m c:Nat) (news:List Value) (hl:news.length = m * size) (hsrc:Src w A news) (h1:Ones news) (hb:(n + m) * bytes ≤ 140737488355328) (hb2:n + m ≤ 1000000000) (hB:B ≤ w.heap.size) :
  ∃ v' w',(Builtin.append_ #[t,t] ty #[v,.slice A m c]).run Tryz.prog w = .ok v' w' ∧ w'.ownsRow B e size v' (n + m) (xs ++ news) ∧ Below B w w':=by
 by_cases h0:m = 0
 ·subst h0
  have hn0:news = []:=List.eq_nil_of_length_eq_zero (by omega)
  subst hn0;exact ⟨v,w,run_append_empty t ty e i ht hi w B size n v xs hown A c,by simpa using hown,Below.refl _ _⟩
 ·obtain ⟨ad,rfl,hc⟩:=hsrc (by rw [hl];exact Nat.mul_pos (by omega) hsz)
  obtain ⟨v',w',hr,h2,h3,_,h5⟩:=run_append_own_at (P:=Tryz.prog) w B t ty e i z size bytes ht hi hz hsize hby hzs hsz v n xs hown ad m c news hl hc h1 (by unfold maxLen;omega) hb hB
  exact ⟨v',w',hr,h2,Below.grown (Below.refl _ _) h3 hB (fun g hg => (hown.lt g hg).1)⟩
def OwnI (B:Nat) (v:Value) (xs:List Int) (w:World):Prop:=w.ownsRow B 3 1 v xs.length (ivs xs)
theorem ownI_nil (B:Nat) (w:World):OwnI B (.slice none 0 0) [] w:=World.ownsRow_nil _ _ _ _
theorem OwnI.grow {B:Nat} {v:Value} {xs:List Int} {w w':World} (h:OwnI B v xs w) (hg:Grow w w'):OwnI B v xs w':=ownsRow_grow h hg
theorem own_at {w:World} {B size n:Nat} {e:TypeId} {v:Value} {xs:List Value} (h:w.ownsRow B e size v n xs) :
  ∃ A c,v = .slice A n c ∧ n ≤ c ∧ (A = none → c = 0) ∧ (0 < n → ∃ g,A = some ⟨g,0,none⟩ ∧ B ≤ g ∧ g < w.heap.size ∧ ∀ j u,xs[j]? = some u → w.cell? ⟨g,j,none⟩ = some u):=by
 rcases h.2 with ⟨rfl,rfl⟩ | ⟨g,cap,cur,rfl,hbg,hgg,hnc,hcm,hsz,htake⟩
 ·exact ⟨none,0,rfl,Nat.le_refl _,fun _ => rfl,fun h => absurd h (Nat.lt_irrefl _)⟩
 ·refine ⟨some ⟨g,0,none⟩,cap,rfl,hnc,(fun e => by cases e),fun _ => ⟨g,rfl,hbg,heap_lt hgg,fun j u hj => ?_⟩⟩
  have hjl:j < n * size:=by
   have:=(List.getElem?_eq_some_iff.1 hj).1;rw [h.1] at this;exact this
  rw [cell_of_row w g j cur _ (0,0) hgg,← hj,← htake,List.getElem?_take,if_pos hjl,Array.getElem?_toList]
theorem wp_more_ints {o:Oper} {a:Act} {w:World} {K:Act → World → Prop} {Q:Exit → Act → World → Prop} (s x:Operand)
  (ho:o.op = .call { callee:=.builtin .append,args:=#[s,x],argTypes:=#[31,31] }) (B:Nat) (v:Value) (xs:List Int) (A:Option Addr) (m c:Nat) (ys:List Int)
  (hs:a.eval s = v) (hown:OwnI B v xs w) (hx:a.eval x = .slice A m c) (hm:ys.length = m) (hys:Nums .i64 w w.heap.size A ys) (hb:xs.length + m ≤ 1000000000) (hB:B ≤ w.heap.size)
  (h:∀ v' w',Hid (OwnI B v' (xs ++ ys) w') → Hid (Below B w w') → K (a.put o.dst v') w'):o.wp Tryz.prog a w K Q:=by
 obtain ⟨i0,hi,hz0,hz1,hz2⟩:=info_of info_int;subst hm;obtain ⟨v',w',hr,h2,h3⟩:=run_append_any w B 31 o.type 3 i0 _ 1 8 Tryz.underlying31 hi hz0 hz1 hz2 rfl (by decide) v xs.length (ivs xs) hown A ys.length c (ivs ys) (ivs_len ys) (src_nums hys) (ivs_one ys) (by omega) hb hB
 unfold Oper.wp;simp [execOp,ho,resolve,invoke,builtin,hs,hx,hr,Result.andThen];exact h v' w' (Hh (by rw [← ivs_app] at h2;rw [← List.length_append] at h2;exact h2)) (Hh h3)
theorem nums_cells {w:World} {g:Nat} {t:TypeId} {xs:List Int} (h:w.heap[g]? = some (.cells (ivs xs).toArray t (0,0))):Nums .i64 w w.heap.size (some ⟨g,0,none⟩) xs:=fun hp =>
 ⟨g,0,rfl,heap_lt h,fun i hi => by
  rw [Nat.zero_add,cell_of_row w g _ _ t (0,0) h]
  simp [ivs,hi]⟩
theorem nums_lit1 (w:World) (n:Int) (t:TypeId):Nums .i64 (w.alloc (.cells #[.int .i64 n] t)) (w.alloc (.cells #[.int .i64 n] t)).heap.size (some ⟨w.heap.size,0,none⟩) [n]:=nums_cells (xs:=[n]) (heap_alloc_new w (.cells #[.int .i64 n] t))
open Go.RowKit Go.Lib
theorem str_ext {s t:ByteArray} (h:s.data.toList = t.data.toList):s = t:=by
 apply ByteArray.ext;exact Array.toList_inj.1 h
theorem str_size (l:List UInt8):(⟨l.toArray⟩:ByteArray).size = l.length:=by simp [ByteArray.size]
theorem str_app (a b:List UInt8):(⟨a.toArray⟩:ByteArray) ++ ⟨b.toArray⟩ = ⟨(a ++ b).toArray⟩:=by
 apply ByteArray.ext;simp
theorem slice_from (l:List UInt8) (n:Nat) (h:n ≤ l.length) (W:World):(Instr.slice 9 (.string ⟨l.toArray⟩) (some (.int .i64 (n:Nat))) none none).run Tryz.prog W = .ok (.string ⟨(l.drop n).toArray⟩) W:=by
 have hu:Tryz.prog.underlying 9 = some .string:=by kernel_rfl
 rw [run_slice_string_l (ht:=hu) (h0:=by omega) (h1:=by simpa [ByteArray.size] using h)]
 congr 2;exact str_ext (by simp [ByteArray.size];exact List.take_of_length_le (by simp))
theorem slice_two (l:List UInt8) (n m:Nat) (h:n ≤ m) (hm:m ≤ l.length) (W:World):(Instr.slice 9 (.string ⟨l.toArray⟩) (some (.int .i64 (n:Nat))) (some (.int .i64 (m:Nat))) none).run Tryz.prog W = .ok (.string ⟨((l.take m).drop n).toArray⟩) W:=by
 have hu:Tryz.prog.underlying 9 = some .string:=by kernel_rfl
 rw [run_slice_string (h:=hu) (h0:=by omega) (h1:=by omega) (h2:=by rw [str_size];omega)]
 congr 2;exact str_ext (by simp [ByteArray.size];rw [List.drop_take])
theorem index_str {l:List UInt8} {i:Nat} {x:UInt8} (h:l[i]? = some x) (W:World):(Instr.index 9 (.string ⟨l.toArray⟩) (.int .i64 (i:Nat))).run Tryz.prog W = .ok (.int .u8 (x.toNat:Nat)) W:=by
 have hu:Tryz.prog.underlying 9 = some .string:=by kernel_rfl
 have hl:=(List.getElem?_eq_some_iff.1 h).1;have h':(⟨l.toArray⟩:ByteArray)[i]? = some x:=by
  rw [getElem?_pos _ _ (by rw [str_size];exact hl)]
  congr 1;have:=(List.getElem?_eq_some_iff.1 h).2
  simpa [ByteArray.getElem_eq_getElem_data] using this
 simp only [Instr.index,asIntOf,Sem.run_bind,Sem.run_pure,Result.andThen_ok,run_underlying hu];rw [if_pos (by omega),Int.toNat_natCast,h']
 rfl
theorem info5:(Tryz.prog.info? 5).map (fun i => (i.zero,i.size,i.bytes)) = some (some (.int .u8 0),1,1):=by kernel_rfl
theorem cells_app (a b:List UInt8):Go.Lib.byteCells (a ++ b) = Go.Lib.byteCells a ++ Go.Lib.byteCells b:=by simp [Go.Lib.byteCells]
theorem cells_str (l:List UInt8):strCells ⟨l.toArray⟩ = Go.Lib.byteCells l:=rfl
def Own (B:Nat) (v:Value) (q:List UInt8) (w:World):Prop:=w.ownsRow B 5 1 v q.length (Go.Lib.byteCells q)
theorem Own.grow {B:Nat} {v:Value} {q:List UInt8} {w w':World} (h:Own B v q w) (hg:Grow w w'):Own B v q w':=ownsRow_grow h hg
theorem wpList_append_text {ops:Array Oper} {rest:List Oper} {o:Oper} {a:Act} {w:World} {Q:Exit → Act → World → Prop} (hgd:o.guard = none) (s x:Operand)
  (ho:o.op = .call { callee:=.builtin .append,args:=#[s,x],argTypes:=#[57,9] }) (B:Nat) (v:Value) (q p:List UInt8)
  (hs:a.eval s = v) (hown:Own B v q w) (hx:a.eval x = .string ⟨p.toArray⟩) (hb:q.length + p.length ≤ 140737488355328) (hbase:B ≤ w.heap.size)
  (h:∀ v' w',Own B v' (q ++ p) w' → Below B w w' → wpList Tryz.prog ops Q rest (a.put o.dst v') w'):wpList Tryz.prog ops Q (o :: rest) a w:=by
 obtain ⟨i0,hi,hz0,hz1,hz2⟩:=info_of info5;refine wpList_append_own_string w hgd s x 57 9 ho B 5 i0 Tryz.underlying57 Tryz.underlying9 hi hz0 hz1 hz2 v q.length (Go.Lib.byteCells q) hs hown ⟨p.toArray⟩ hx (by rw [str_size];unfold maxLen;omega) (by rw [str_size];omega) hbase ?_
 intro v' w' hown' hgrow _;refine h v' w' ?_ (Below.grown (Below.refl _ _) hgrow hbase (fun g hg => (hown.lt g hg).1));unfold Own;rw [List.length_append,cells_app,← cells_str p];rw [str_size] at hown';exact hown'
theorem conv_own {B:Nat} {v:Value} {q:List UInt8} {w:World} (h:Own B v q w):(convert 57 9 v).run Tryz.prog w = .ok (.string ⟨q.toArray⟩) w:=by
 rcases h.2 with ⟨rfl,hx⟩ | ⟨g,cap,cur,rfl,hbg,hgg,hnc,_,hsz,htake⟩
 ·have hq:q = []:=by
   exact List.eq_nil_of_length_eq_zero hx
  subst hq;exact run_convert_bytes_nil w 57 5 Tryz.underlying57 Tryz.underlying5 0 0 9 Tryz.underlying9
 ·refine run_convert_bytes_back (P:=Tryz.prog) w 57 9 5 ⟨g,0,none⟩ cap q (by kernel_rfl) (by kernel_rfl) (by kernel_rfl) (fun j hj => ?_)
  rw [Addr.add_lit,Nat.zero_add,cell_of_row w g j cur 5 (0,0) hgg];have h1:(cur.toList.take (q.length * 1))[j]? = (Go.Lib.byteCells q)[j]?:=by rw [htake]
  rw [List.getElem?_take,if_pos (by omega),Array.getElem?_toList] at h1
  rw [h1];simp [Go.Lib.byteCells,hj]
theorem conv_lit (w:World) (l:List UInt8) (vs:Array Value) (n:Nat) (hn:n = l.length) (h:vs = (Go.Lib.byteCells l).toArray) :
  (convert 57 9 (.slice (some ⟨w.heap.size,0,none⟩) n n)).run Tryz.prog (w.alloc (.cells vs 5)) = .ok (.string ⟨l.toArray⟩) (w.alloc (.cells vs 5)):=by
 subst hn h;refine run_convert_bytes_back (P:=Tryz.prog) _ 57 9 5 ⟨w.heap.size,0,none⟩ l.length l (by kernel_rfl) (by kernel_rfl) (by kernel_rfl) (fun j hj => ?_)
 rw [Addr.add_lit,World.cell?_alloc_new];simp [Go.Lib.byteCells,hj]
def Laid1 (B:Nat) (q:List UInt8) (w:World) (e:Ending) (w':World):Prop:=∃ v',e = .returned v' ∧ Own B v' q w' ∧ Below B w w'
theorem rune_cells {c:Nat} (h:isSign c = true):Lib.runeCells (c:Int) = Go.Lib.byteCells (bytesD c):=by
 have hs:=isSign_iff.1 h;unfold bytesD;rw [if_pos h]
 by_cases h1:c < 128
 ·rw [if_pos h1,Lib.runeCells,encodeRuneZ_one (by omega) (by omega)]
  simp [Go.Lib.byteCells,u8_nat (show c < 256 by omega)]
 ·rw [if_neg h1]
  by_cases h2:c < 2048
  ·rw [if_pos h2,Lib.runeCells,encodeRuneZ_two (by omega) (by omega)]
   simp only [Go.Lib.byteCells,List.map_cons,List.map_nil];rw [u8_nat (by omega),u8_nat (by omega)]
   simp
  ·rw [if_neg h2]
   by_cases h3:c < 65536
   ·rw [if_pos h3,Lib.runeCells,encodeRuneZ_three (by omega)]
    simp only [Go.Lib.byteCells,List.map_cons,List.map_nil];rw [u8_nat (by omega),u8_nat (by omega),u8_nat (by omega)]
    simp
   ·rw [if_neg h3,Lib.runeCells,encodeRuneZ_four (by omega) (by omega)]
    simp only [Go.Lib.byteCells,List.map_cons,List.map_nil];rw [u8_nat (by omega),u8_nat (by omega),u8_nat (by omega),u8_nat (by omega)]
    simp
theorem rune_any (B:Nat) (v:Value) (q:List UInt8) (c:Nat) (w:World) (hc:isSign c = true) (hq:q.length ≤ 10000000) (hown:Own B v q w) (hB:B ≤ w.heap.size) :
  Calls Tryz.prog 81 #[v,.int .i32 c] w (Laid1 B (q ++ bytesD c) w):=by
 have hs:=(isSign_iff.1 hc).1;refine (Tryz.utf8_AppendRune_plain B v q.length (Go.Lib.byteCells q) c (by omega) (by omega) w hown (by omega) hB).mono ?_
 rintro e w' ⟨v',rfl,h1,o,h2⟩;refine ⟨v',rfl,?_,?_⟩
 ·unfold Own
  rw [List.length_append,cells_app];rw [rune_cells hc,Go.Lib.byteCells_length] at h1;exact h1
 ·have hown':Own B v q (w.alloc o):=hown.grow (grow_new _ _)
  exact Below.trans (Below.mono (grow_new w o) hB) (Below.grown (Below.refl _ _) h2 (by simp;omega) (fun g hg => (hown'.lt g hg).1))
def cloneRen:Go.Shelf.Ren:=⟨fun | 25 => 153 | n => n,fun | 37 => 57 | 47 => 93 | n => n,fun n => n⟩
theorem cloneLays:LaysPu.n25 Tryz.prog cloneRen:={
 mixed:=by kernel_rfl
 f25:=Tryz.func153.trans (congrArg some (by kernel_rfl))
 t0:=Tryz.underlying0
 a0:=Tryz.isAgg0
 z0:=Tryz.sizeOf0
 v0:=Tryz.zeroValue0
 i0:=by kernel_rfl
 t3:=Tryz.underlying3
 a3:=Tryz.isAgg3
 z3:=Tryz.sizeOf3
 v3:=Tryz.zeroValue3
 i3:=by kernel_rfl
 t4:=Tryz.underlying4
 a4:=Tryz.isAgg4
 z4:=Tryz.sizeOf4
 v4:=Tryz.zeroValue4
 i4:=by kernel_rfl
 t5:=Tryz.underlying5
 a5:=Tryz.isAgg5
 z5:=Tryz.sizeOf5
 v5:=Tryz.zeroValue5
 i5:=by kernel_rfl
 t9:=Tryz.underlying9
 a9:=Tryz.isAgg9
 z9:=Tryz.sizeOf9
 v9:=Tryz.zeroValue9
 i9:=by kernel_rfl
 t37:=Tryz.underlying57
 a37:=Tryz.isAgg57
 z37:=Tryz.sizeOf57
 v37:=Tryz.zeroValue57
 i37:=by kernel_rfl
 t47:=Tryz.underlying93
 a47:=Tryz.isAgg93
 z47:=Tryz.sizeOf93
 v47:=Tryz.zeroValue93
 i47:=by kernel_rfl }
theorem clone_any (l:List UInt8) (w:World) (hl:l.length ≤ 1000000):Calls Tryz.prog 125 #[.string ⟨l.toArray⟩] w fun e w' => e = .returned (.string ⟨l.toArray⟩) ∧ Grow w w':=by
 have HC:=Hh (AnyPu.stringslite_Clone cloneLays ⟨l.toArray⟩ w (by rw [str_size];omega))
 go_enter Tryz.func125,Tryz.ntmps125
 go_wp2_with fail;refine (HC.out).mono ?_;rintro e w1 ⟨rfl,hg⟩;have HG:=Hh (show Grow w w1 from hg);clear hg;go_wp2;go_ret;exact ⟨rfl,HG.out⟩
def Laid (w:World):Prop:=Lib.Utf8Tabs 2 3 w
theorem cell_lt {w:World} {p:Addr} {v:Value} (h:w.cell? p = some v):p.block < w.heap.size:=block_lt_of_cell h
theorem Laid.grow {w w' : World} (h : Laid w) (hg : Grow w w') : Laid w' :=
  ⟨fun c hc => (hg.cell (p := ⟨_, c, none⟩) (cell_lt (h.1 c hc))).trans (h.1 c hc),
   fun i hi => ⟨(hg.cell (p := ⟨_, 2 * i, none⟩) (cell_lt (h.2 i hi).1)).trans (h.2 i hi).1, (hg.cell (p := ⟨_, 2 * i + 1, none⟩) (cell_lt (h.2 i hi).2)).trans (h.2 i hi).2⟩⟩
open Go.RowKit Go.Lib
theorem decode_list (l:List UInt8):decodeGo ⟨l.toArray⟩ = if l = [] then (65533,0) else runeD l:=by
 unfold decodeGo;rw [str_size]
 cases l with
 | nil => rfl
 | cons b r =>
  rw [if_neg (by simp),if_neg (by simp),decode_at_rune _ 0 (by rw [str_size];simp)]
  rfl
theorem runeLen_of {c:Nat} (h:isSign c = true):runeLen (c:Int) = ((bytesD c).length:Nat):=by
 have hs:=isSign_iff.1 h;unfold runeLen bytesD;rw [if_pos h]
 repeat' split
 all_goals first | (exfalso;omega) | rfl
theorem runeLen_bad:runeLen 65533 = 3:=by decide
theorem pre_two (l:List UInt8):hasPrefix l [39,39] = match l with
  | a :: b :: _ => decide (a = 39 ∧ b = 39)
  | _ => false:=by
 rcases l with _ | ⟨a,_ | ⟨b,r⟩⟩
 ·rfl
 ·simp [hasPrefix,List.isPrefixOf]
 ·simp only [hasPrefix,List.isPrefixOf,Bool.and_true]
  rw [Bool.eq_iff_iff,Bool.and_eq_true,beq_iff_eq,beq_iff_eq,decide_eq_true_eq];exact ⟨fun h => ⟨h.1.symm,h.2.symm⟩,fun h => ⟨h.1.symm,h.2.symm⟩⟩
theorem pre_one (l:List UInt8):hasPrefix l [39] = match l with
  | a :: _ => decide (a = 39)
  | _ => false:=by
 rcases l with _ | ⟨a,r⟩
 ·rfl
 ·simp only [hasPrefix,List.isPrefixOf,Bool.and_true]
  rw [Bool.eq_iff_iff,beq_iff_eq,decide_eq_true_eq];exact eq_comm
theorem first_two {l:List UInt8} (h:hasPrefix l [39,39] = true):fstQ l = (39,2) ∧ decodeGo ⟨l.toArray⟩ = (39,1):=by
 rw [pre_two] at h
 rcases l with _ | ⟨a,_ | ⟨b,r⟩⟩
 ·cases h
 ·cases h
 ·simp only [decide_eq_true_eq] at h
  obtain ⟨rfl,rfl⟩:=h;refine ⟨rfl,?_⟩;rw [decode_list,if_neg (by simp),runeD_of (next_one (by decide)) (by decide)]
  rfl
theorem first_one {l:List UInt8} (h:hasPrefix l [39,39] = false) (h2:hasPrefix l [39] = true):fstQ l = (0,0):=by
 rw [pre_two] at h;rw [pre_one] at h2
 rcases l with _ | ⟨a,_ | ⟨b,r⟩⟩
 ·cases h2
 ·have ha:a = 39:=by simpa using h2
  subst ha;rfl
 ·have ha:a = 39:=by simpa using h2
  subst ha;have hb:b ≠ 39:=by simpa using h
  rw [fstQ_cons,if_pos rfl,if_neg (by simpa using hb)]
theorem first_none {l:List UInt8} (h2:hasPrefix l [39] = false) (hn:(nextD l).2 = 0):fstQ l = (0,0) ∧ ∃ n,n ≤ 1 ∧ decodeGo ⟨l.toArray⟩ = (65533,n):=by
 rw [pre_one] at h2
 rcases l with _ | ⟨a,r⟩
 ·exact ⟨rfl,0,by decide,by rw [decode_list,if_pos rfl]⟩
 ·have ha:a ≠ 39:=by simpa using h2
  refine ⟨?_,1,by decide,?_⟩
  ·rw [fstQ_cons,if_neg ha]
   by_cases hz:(nextD (a :: r)).2 = 0
   ·by_cases hp:nextD (a :: r) = (0,0)
    ·exact hp
    ·exfalso
     rw [nextD_cons] at hz hp;unfold many at hz hp
     repeat' split at hz
     all_goals first | (simp at hz) | skip
     all_goals simp_all
   ·exact absurd hn hz
  ·rw [decode_list,if_neg (by simp)]
   unfold runeD;rw [if_pos hn]
theorem first_some {l:List UInt8} (h2:hasPrefix l [39] = false) (hn:(nextD l).2 ≠ 0):fstQ l = nextD l ∧ decodeGo ⟨l.toArray⟩ = nextD l:=by
 rw [pre_one] at h2
 rcases l with _ | ⟨a,r⟩
 ·exact absurd rfl hn
 ·have ha:a ≠ 39:=by simpa using h2
  refine ⟨?_,?_⟩
  ·rw [fstQ_cons,if_neg ha]
  ·rw [decode_list,if_neg (by simp)]
   unfold runeD;rw [if_neg hn]
def First (p:Nat × Nat) (w:World) (e:Ending) (w':World):Prop:=e = .returned (.tuple #[.int .i32 ((p.1:Nat):Int),.int .i64 ((p.2:Nat):Int)]) ∧ Grow w w'
theorem first_any (l:List UInt8) (w:World) (hL:Laid w):Calls Tryz.prog 124 #[.string ⟨l.toArray⟩] w (First (fstQ l) w):=by
 have HD:=Hh (Tryz.utf8_DecodeRuneInString ⟨l.toArray⟩ w hL);have HP2:=Hh (fun W => Tryz.strings_HasPrefix ⟨l.toArray⟩ ⟨#[39,39]⟩ W);have HP1:=Hh (fun W => Tryz.strings_HasPrefix ⟨l.toArray⟩ ⟨#[39]⟩ W);rw [show (⟨l.toArray⟩:ByteArray).data.toList = l from rfl,show (⟨#[39,39]⟩:ByteArray).data.toList = [39,39] from rfl] at HP2;rw [show (⟨l.toArray⟩:ByteArray).data.toList = l from rfl,show (⟨#[39]⟩:ByteArray).data.toList = [39] from rfl] at HP1;clear hL
 cases h2:hasPrefix l [39,39] with
 | true =>
  obtain ⟨e1,e2⟩:=first_two h2;rw [e2] at HD;rw [h2] at HP2;rw [e1];clear e1 e2 h2 HP1
  go_enter Tryz.func124,Tryz.ntmps124
  go_wp2_with fail;refine (HD.out).mono ?_;rintro e w1 ⟨rfl,hg⟩;have HG:=Hh (show Grow w w1 from hg);clear hg HD;go_wp2_with fail;refine (HP2.out _).mono ?_;rintro e w2 ⟨rfl,rfl⟩;go_wp2;go_ret2;exact ⟨rfl,HG.out⟩
 | false =>
  rw [h2] at HP2
  cases h1:hasPrefix l [39] with
  | true =>
   rw [h1] at HP1;rw [first_one h2 h1];clear h1 h2;obtain ⟨c,hc⟩:∃ c,(decodeGo ⟨l.toArray⟩).1 = c:=⟨_,rfl⟩;obtain ⟨n,hn⟩:∃ n,(decodeGo ⟨l.toArray⟩).2 = n:=⟨_,rfl⟩;rw [hc,hn] at HD;clear hc hn
   go_enter Tryz.func124,Tryz.ntmps124
   go_wp2_with fail;refine (HD.out).mono ?_;rintro e w1 ⟨rfl,hg⟩;have HG:=Hh (show Grow w w1 from hg);clear hg HD;go_wp2_with fail;refine (HP2.out _).mono ?_;rintro e w2 ⟨rfl,rfl⟩;go_wp2_with fail;refine (HP1.out _).mono ?_;rintro e w2 ⟨rfl,rfl⟩;go_wp2;go_ret2;exact ⟨rfl,HG.out⟩
  | false =>
   rw [h1] at HP1
   by_cases hz:(nextD l).2 = 0
   ·obtain ⟨e1,n,hn,e2⟩:=first_none h1 hz
    rw [e2] at HD;rw [e1];have HR:=Hh (fun W => Tryz.utf8_RuneLen ((65533:Nat):Int) W);rw [show runeLen ((65533:Nat):Int) = 3 from runeLen_bad] at HR;have hne:(((n:Nat):Int) == 3) = false:=by rw [beq_eq_false_iff_ne];omega
    clear e1 e2 h1 h2 hz hn
    go_enter Tryz.func124,Tryz.ntmps124
    go_wp2_with fail;refine (HD.out).mono ?_;rintro e w1 ⟨rfl,hg⟩;have HG:=Hh (show Grow w w1 from hg);clear hg HD;go_wp2_with fail;refine (HP2.out _).mono ?_;rintro e w2 ⟨rfl,rfl⟩;go_wp2_with fail;refine (HP1.out _).mono ?_;rintro e w2 ⟨rfl,rfl⟩;go_wp2_with fail;refine (HR.out _).mono ?_;rintro e w2 ⟨rfl,rfl⟩;go_wp2;go_ret2;exact ⟨rfl,HG.out⟩
   ·obtain ⟨e1,e2⟩:=first_some h1 hz
    obtain ⟨i1,_,i3⟩:=next_inv hz;rw [e2] at HD;rw [e1];have HR:=Hh (fun W => Tryz.utf8_RuneLen (((nextD l).1:Nat):Int) W);rw [runeLen_of i1,← i3] at HR;clear e1 e2 h1 h2 hz i1 i3;generalize nextD l = p at *;obtain ⟨c,n⟩:=p;dsimp only at *
    go_enter Tryz.func124,Tryz.ntmps124
    go_wp2_with fail;refine (HD.out).mono ?_;rintro e w1 ⟨rfl,hg⟩;have HG:=Hh (show Grow w w1 from hg);clear hg HD;go_wp2_with fail;refine (HP2.out _).mono ?_;rintro e w2 ⟨rfl,rfl⟩;go_wp2_with fail;refine (HP1.out _).mono ?_;rintro e w2 ⟨rfl,rfl⟩;go_wp2_with fail;refine (HR.out _).mono ?_;rintro e w2 ⟨rfl,rfl⟩;go_wp2;go_ret2;exact ⟨rfl,HG.out⟩
theorem issign_any (n:Int) (w:World):Calls Tryz.prog 39 #[.int .i64 n] w fun e w' => e = .returned (.bool (signZ n)) ∧ w' = w:=by
 by_cases h0:0 ≤ n
 ·by_cases h1:n ≤ 1114111
  ·have hw:IntKind.i32.wrap n = n:=by rw [IntKind.wrap_i32];omega
   have HV:=Hh (fun W => Tryz.utf8_ValidRune n W);have he:Lib.validRune n = signZ n:=by
    unfold Lib.validRune signZ;rw [Bool.eq_iff_iff,decide_eq_true_eq,decide_eq_true_eq];omega
   rw [he] at HV;clear he;generalize signZ n = b at *
   go_enter Tryz.func39,Tryz.ntmps39
   go_wp2_with fail;refine (HV.out _).mono ?_;rintro e w2 ⟨rfl,rfl⟩;go_wp2;go_ret;exact ⟨rfl,rfl⟩
  ·have he:signZ n = false:=by unfold signZ;rw [decide_eq_false_iff_not];omega
   rw [he]
   go_enter Tryz.func39,Tryz.ntmps39
   go_wp2;go_ret;exact ⟨rfl,rfl⟩
 ·have he:signZ n = false:=by unfold signZ;rw [decide_eq_false_iff_not];omega
  rw [he]
  go_enter Tryz.func39,Tryz.ntmps39
  go_wp2;go_ret;exact ⟨rfl,rfl⟩
theorem enc_bytes {c:Nat} (h:isSign c = true):Utf8.encode (c:Int) = ⟨(bytesD c).toArray⟩:=by
 have hs:=isSign_iff.1 h;have hv:Utf8.valid (c:Int) = true:=by
  unfold Utf8.valid;simp;omega
 unfold Utf8.encode bytesD;rw [if_pos h];simp only [hv,if_true,Int.toNat_natCast];split
 ·rfl
 ·split
  ·rfl
  ·split <;> rfl
theorem append_any (B:Nat) (v:Value) (q:List UInt8) (c:Nat) (w:World) (hc:isSign c = true) (hq:q.length ≤ 1000000) (hown:Own B v q w) (hB:B ≤ w.heap.size) :
  Calls Tryz.prog 40 #[v,.int .i32 c] w (Laid1 B (q ++ qC c) w):=by
 have HO:=Hh hown;have henc:(Utf8.encode (c:Int)).toList = bytesD c:=by rw [enc_bytes hc,Lib.toList_data]
 by_cases h39:c = 39
 ·have ht:((Utf8.encode (c:Int)).toList == [39]) = true:=by rw [henc,h39];rfl
  rw [show qC c = [39,39] by rw [h39];rfl]
  clear hown hc henc h39
  go_enter Tryz.func40,Tryz.ntmps40
  go_wp2_with (at_builtin;refine wpList_append_text rfl _ _ rfl B v q [39,39] rfl HO.out rfl (by simp only [List.length_cons,List.length_nil];omega) hB ?_;intro v1 w1 ho1 hb1)
  go_ret;exact ⟨_,rfl,ho1,hb1⟩
 ·have HR:=Hh (rune_any B v q c w hc (by omega) hown hB)
  rw [qC_other h39];have ht:((Utf8.encode (c:Int)).toList == [39]) = false:=by
   rw [beq_eq_false_iff_ne,henc];intro e1;have hn:=next_bytes hc [];rw [e1,List.append_nil,next_one (by decide)] at hn
   exact h39 (Prod.mk.inj hn).1.symm
  clear hown hc h39 henc
  go_enter Tryz.func40,Tryz.ntmps40
  go_wp2_with fail;refine (HR.out).mono ?_;rintro e w1 ⟨v1,rfl,ho,hb⟩;have HO1:=Hh ho;have HB1:=Hh hb;clear ho hb;go_wp2;go_ret;exact ⟨_,rfl,HO1.out,HB1.out⟩
open Go.RowKit Go.Lib
def mkL:Option (List Nat × List UInt8) → List Int × List UInt8 × Bool
 | none => ([],[],false)
 | some p => (intsZ p.1,p.2,true)
def ReadP (xs:List Int) (r:List UInt8) (ok:Bool) (w:World) (e:Ending) (w':World):Prop :=
 ∃ A c,e = .returned (.tuple #[.slice A xs.length c,.string ⟨r.toArray⟩,.bool ok]) ∧ xs.length ≤ c ∧ NumsT (fun b => w.heap.size ≤ b ∧ b < w'.heap.size) w' A xs ∧ Grow w w'
theorem OwnI.newT {B:Nat} {v:Value} {xs:List Int} {w:World} (h:OwnI B v xs w):∃ A c,v = .slice A xs.length c ∧ xs.length ≤ c ∧ NumsT (fun b => B ≤ b ∧ b < w.heap.size) w A xs:=by
 obtain ⟨A,c,rfl,hc,_,hg⟩:=own_at h;refine ⟨A,c,rfl,hc,fun hp => ?_⟩;obtain ⟨g,rfl,h1,h2,h3⟩:=hg hp;refine ⟨g,0,rfl,⟨h1,h2⟩,fun i hi => ?_⟩;rw [Nat.zero_add];exact h3 i _ (by simp [ivs,hi])
theorem pre_cut (l:List UInt8):(∃ t,l = 39 :: t ∧ hasPrefix l [39] = true ∧ trimPrefix l [39] = t) ∨ (hasPrefix l [39] = false ∧ trimPrefix l [39] = l ∧ l.head? ≠ some 39):=by
 rcases l with _ | ⟨a,r⟩
 ·exact .inr ⟨rfl,rfl,by simp⟩
 ·by_cases ha:a = 39
  ·subst ha
   refine .inl ⟨r,rfl,by rw [pre_one];simp,?_⟩
   unfold trimPrefix;rw [pre_one];simp
  ·refine .inr ⟨by rw [pre_one];simpa using ha,?_,by simpa using ha⟩
   unfold trimPrefix;rw [pre_one];simp [ha]
theorem readQ_other {l:List UInt8} (h:l.head? ≠ some 39):readQ l = none:=by
 cases l with
 | nil => rfl
 | cons a r => rw [readQ_cons,if_neg (by simpa using h)]
def Left (t:List UInt8) (acc:List Nat) (r:List UInt8):Prop:=bodyD t = (acc ++ (bodyD r).1,(bodyD r).2)
theorem left_on {t r:List UInt8} {acc:List Nat} (h:Left t acc r) (hn:(fstQ r).2 ≠ 0):Left t (acc ++ [(fstQ r).1]) (r.drop (fstQ r).2):=by
 unfold Left at h ⊢;rw [h,body_step hn];simp
theorem left_end {t r:List UInt8} {acc:List Nat} (h:Left t acc r) (hn:(fstQ r).2 = 0):bodyD t = (acc,r):=by
 unfold Left at h;rw [h,body_stop hn];simp
theorem end_yes {t:List UInt8} {acc:List Nat} {r:List UInt8} (h:bodyD t = (acc,39 :: r)):mkL (readQ (39 :: t)) = (intsZ acc,r,true):=by
 rw [readQ_cons,if_pos rfl,h,endQ_cons,if_pos rfl];rfl
theorem end_no {t:List UInt8} {acc:List Nat} {r:List UInt8} (h:bodyD t = (acc,r)) (hr:r.head? ≠ some 39):mkL (readQ (39 :: t)) = ([],[],false):=by
 rw [readQ_cons,if_pos rfl,h]
 cases r with
 | nil => rfl
 | cons a r => rw [endQ_cons,if_neg (by simpa using hr)];rfl
theorem ints_one (acc:List Nat) (c:Nat):intsZ (acc ++ [c]) = intsZ acc ++ [((c:Nat):Int)]:=by rw [ints_append];rfl
theorem read_any (l:List UInt8) (hl:l.length ≤ 100000) (w:World) (hL:Laid w) :
  Calls Tryz.prog 92 #[.string ⟨l.toArray⟩] w (ReadP (mkL (readQ l)).1 (mkL (readQ l)).2.1 (mkL (readQ l)).2.2 w):=by
 have HL:=Hh hL;obtain ⟨B,hB⟩:∃ B,w.heap.size = B:=⟨_,rfl⟩;have HBE:=Hh hB;have HC:=Hh (Tryz.strings_CutPrefix ⟨l.toArray⟩ ⟨#[39]⟩ w);rw [show (⟨l.toArray⟩:ByteArray).data.toList = l from rfl,show (⟨#[39]⟩:ByteArray).data.toList = [39] from rfl] at HC;clear hL hB
 rcases pre_cut l with ⟨t,rfl,hp,ht⟩ | ⟨hp,ht,hh⟩
 ·rw [hp,ht] at HC
  have htl:t.length ≤ 99999:=by simpa using hl
  clear hp ht hl;obtain ⟨s,hs⟩:∃ s:ByteArray,s = ⟨(39 :: t).toArray⟩:=⟨_,rfl⟩;obtain ⟨m,hm⟩:∃ m,mkL (readQ (39 :: t)) = m:=⟨_,rfl⟩;have HE1:=Hh (fun acc r (h:bodyD t = (acc,39 :: r)) => hm.symm.trans (end_yes h));have HE2:=Hh (fun acc r (h:bodyD t = (acc,r)) h2 => hm.symm.trans (end_no h h2));rw [← hs] at HC ⊢;rw [hm];clear hs hm
  go_enter Tryz.func92,Tryz.ntmps92
  go_wp2_with fail;refine (HC.out).mono ?_;rintro x w ⟨rfl,rfl⟩;clear HC;go_wp2
  go_loopg [0,6] t.length (fun gk s0 s6 wr => ∃ (r:List UInt8) (acc:List Nat) (v:Value),gk = r.length ∧ s0 = .string ⟨r.toArray⟩ ∧ v = s6 ∧ Hid (OwnI B v (intsZ acc) wr) ∧ Hid (Left t acc r) ∧ acc.length + r.length ≤ t.length ∧ Hid (Below B w wr))
  case atStart => exact ⟨t,[],_,rfl,rfl,rfl,Hh (ownI_nil _ _),Hh (by unfold Left;simp),by simp,Hh (Below.refl _ _)⟩
  case round =>
   obtain ⟨r,acc,v,rfl,rfl,rfl,HO,HLE,hlen,HG⟩:=hrel;have HZ:Hid (B ≤ wr.heap.size):=Hh (by rw [← HBE.out];exact HG.out.size)
   have HGW:Hid (Grow w wr):=Hh (by unfold Grow;rw [HBE.out];exact HG.out)
   have HF:=Hh (first_any r wr (HL.out.grow HGW.out))
   by_cases hn:(fstQ r).2 = 0
   ·have hbd:=left_end HLE.out hn
    have hc2:∃ c,fstQ r = (c,0):=⟨_,Prod.ext rfl hn⟩;obtain ⟨c,hc2⟩:=hc2;rw [hc2] at HF;clear hc2 hn HLE;have HC2:=Hh (fun W => Tryz.strings_CutPrefix ⟨r.toArray⟩ ⟨#[39]⟩ W);rw [show (⟨r.toArray⟩:ByteArray).data.toList = r from rfl,show (⟨#[39]⟩:ByteArray).data.toList = [39] from rfl] at HC2
    rcases pre_cut r with ⟨u,rfl,hp,ht⟩ | ⟨hp,ht,hh⟩
    ·rw [hp,ht] at HC2
     have HV:=Hh (HE1.out _ _ hbd);have HCL:=Hh (fun W => clone_any u W (by rw [List.length_cons] at hlen;omega))
     clear hbd hp ht hlen;obtain ⟨s2,hs2⟩:∃ s2:ByteArray,s2 = ⟨(39 :: u).toArray⟩:=⟨_,rfl⟩;rw [← hs2] at HF HC2 ⊢;clear hs2;go_wp2_with fail;refine (HF.out).mono ?_;rintro x w1 ⟨rfl,hg⟩;have HG1:=Hh hg;clear hg HF;dsimp only;go_wp2_with fail;refine (HC2.out _).mono ?_;rintro x w' ⟨rfl,rfl⟩;go_wp2_with fail;refine (HCL.out _).mono ?_;rintro x w2 ⟨rfl,hg⟩;have HG2:=Hh (HG1.out.trans hg);clear hg;go_wp2;go_ret3;rw [HV.out];obtain ⟨A,c,e1,h1,h2⟩:=(HO.out.grow HG2.out).newT;rw [← HBE.out] at h2;rw [e1];exact ⟨A,c,rfl,h1,h2,HGW.out.trans HG2.out⟩
    ·rw [hp,ht] at HC2
     have HV:=Hh (HE2.out _ _ hbd hh);clear hbd hp ht hh hlen;go_wp2_with fail;refine (HF.out).mono ?_;rintro x w1 ⟨rfl,hg⟩;have HG1:=Hh hg;clear hg HF;dsimp only;go_wp2_with fail;refine (HC2.out _).mono ?_;rintro x w' ⟨rfl,rfl⟩;go_wp2;go_ret3;rw [HV.out];exact ⟨none,0,rfl,Nat.le_refl _,(fun h => absurd h (by simp [mkL])),HGW.out.trans HG1.out⟩
   ·have HLE':=Hh (left_on HLE.out hn)
    obtain ⟨i1,_,_⟩:=fst_le hn;obtain ⟨i2,i3⟩:=fst_drop hn;obtain ⟨⟨c,k⟩,hck⟩:∃ p,fstQ r = p:=⟨_,rfl⟩;rw [hck] at HF HLE' hn i1 i2 i3;dsimp only at hn HLE' i1 i2 i3;have hk0:(((k:Nat):Int) == 0) = false:=by rw [beq_eq_false_iff_ne];omega
    have hc:=(isSign_iff.1 i1).1;have hwc:IntKind.i64.wrap ((c:Nat):Int) = ((c:Nat):Int):=by rw [IntKind.wrap_i64];omega
    have hsl:=slice_from r k i2;have hrl:(r.drop k).length = r.length - k:=by simp
    generalize r.drop k = rd at *;clear hn i1 i2 hck HLE hc;go_wp2_with fail;refine (HF.out).mono ?_;rintro x w1 ⟨rfl,hg⟩;have HG1:=Hh hg;have HO1:=Hh (HO.out.grow hg);have HZ1:=Hh (Nat.le_trans HZ.out hg.size);have HGB1:=Hh (Below.trans HG.out (Below.mono hg HZ.out));clear hg HF HO HG HGW;dsimp only;go_wp2_with fail;refine wp_region_R ((Below B)) (n:=10) rfl (by kernel_rfl) ?_
    intro W0 hW0e hW0;have HG0:Grow w1 W0:=hW0;have HO0:=Hh (HO1.out.grow HG0);have HZ0:=Hh (Nat.le_trans HZ1.out HG0.size);have HGB0:=Hh (Below.trans HGB1.out (Below.mono HG0 HZ1.out));clear hW0 HG0;clear hW0e;refine wpR_take (belowOrd B) (i:=0) (v:=?vf1) rfl (by kernel_rfl) (by kernel_rfl) (by kernel_rfl) (fun _ _ _ h => h) (by rfl) ?hf1 ?rf1
    case hf1 => (intro wg hSw;go_simp <;> with_reducible rfl)
    simp only [Act.put,List.setIfInBounds_toArray,List.set_cons_zero,List.set_cons_succ];refine wpR_take (belowOrd B) (i:=1) (v:=?vf2) rfl (by kernel_rfl) (by kernel_rfl) (by kernel_rfl) (fun _ _ _ h => h) (by rfl) ?hf2 ?rf2
    case hf2 => (intro wg hSw;go_simp <;> with_reducible rfl)
    simp only [Act.put,List.setIfInBounds_toArray,List.set_cons_zero,List.set_cons_succ];refine wpR_take (belowOrd B) (i:=2) (v:=?vf3) rfl (by kernel_rfl) (by kernel_rfl) (by kernel_rfl) (fun _ _ _ h => h) (by rfl) ?hf3 ?rf3
    case hf3 => (intro wg hSw;go_simp <;> with_reducible rfl)
    simp only [Act.put,List.setIfInBounds_toArray,List.set_cons_zero,List.set_cons_succ];refine wpR_take (belowOrd B) (i:=5) (v:=?vf4) rfl (by kernel_rfl) (by kernel_rfl) (by kernel_rfl) (fun _ _ _ h => h) (by rfl) ?hf4 ?rf4
    case hf4 => (intro wg hSw;go_simp <;> with_reducible rfl)
    simp only [Act.put,List.setIfInBounds_toArray,List.set_cons_zero,List.set_cons_succ];refine wpR_take (belowOrd B) (i:=6) (v:=?vf5) rfl (by kernel_rfl) (by kernel_rfl) (by kernel_rfl) (fun _ _ _ h => h) (by rfl) ?hf5 ?rf5
    case hf5 => (intro wg hSw;go_simp <;> with_reducible rfl)
    simp only [Act.put,List.setIfInBounds_toArray,List.set_cons_zero,List.set_cons_succ];refine wpR_take (belowOrd B) (i:=7) (v:=?vf6) rfl (by kernel_rfl) (by kernel_rfl) (by kernel_rfl) (fun _ _ _ h => h) (by rfl) ?hf6 ?rf6
    case hf6 => (intro wg hSw;go_simp <;> with_reducible rfl)
    simp only [Act.put,List.setIfInBounds_toArray,List.set_cons_zero,List.set_cons_succ];refine wpR_one (i:=3) (by kernel_rfl) ?_
    refine wpR_op (i:=3) rfl (by rfl) (fun K hK => ?_)
    go_simp;refine hK.out _ _ (Below.mono (grow_new _ _) HZ0.out) ?_;clear hK K
    try simp only [Act.put,List.setIfInBounds_toArray,List.set_cons_zero,List.set_cons_succ]
    generalize hwM3:World.alloc W0 (Obj.cells #[.int .i64 ((c:Nat):Int)] 3) = wM3;have hN3:Grow W0 wM3:=by rw [← hwM3];exact grow_new _ _
    have hC3:Nums .i64 wM3 wM3.heap.size (some ⟨(W0).heap.size,0,none⟩) [((c:Nat):Int)]:=by rw [← hwM3];exact nums_lit1 _ _ _
    have hM3:Below B W0 wM3:=Below.mono hN3 HZ0.out;have HZ3:=Hh (Nat.le_trans HZ0.out hN3.size);have HO3:=Hh (HO0.out.grow hN3);clear hwM3;refine wpR_one (i:=4) (by kernel_rfl) ?_
    refine wpR_op (i:=4) rfl (by rfl) (fun K hK => ?_)
    refine wp_more_ints _ _ rfl B v (intsZ acc) _ 1 1 [((c:Nat):Int)] rfl HO3.out rfl rfl hC3 (by rw [ints_len];omega) HZ3.out ?_
    intro v4 wM4 hO4 hB4;have hM4:Below B wM3 wM4:=hB4.out;have hN4:=hM4;refine hK.out _ _ hM4 ?_;clear hK K
    try simp only [Act.put,List.setIfInBounds_toArray,List.set_cons_zero,List.set_cons_succ]
    refine wpR_take (belowOrd B) (i:=8) (v:=?vf7) rfl (by kernel_rfl) (by kernel_rfl) (by kernel_rfl) (fun _ _ _ h => h) (by rfl) ?hf7 ?rf7
    case hf7 => (intro wg hSw;go_simp <;> with_reducible rfl)
    simp only [Act.put,List.setIfInBounds_toArray,List.set_cons_zero,List.set_cons_succ];refine wpR_take (belowOrd B) (i:=9) (v:=?vf8) rfl (by kernel_rfl) (by kernel_rfl) (by kernel_rfl) (fun _ _ _ h => h) (by rfl) ?hf8 ?rf8
    case hf8 => (intro wg hSw;go_simp <;> with_reducible rfl)
    simp only [Act.put,List.setIfInBounds_toArray,List.set_cons_zero,List.set_cons_succ];refine wpR_done (by kernel_rfl) ?_
    have HGW:=Hh (Below.trans HGB0.out (((belowOrd B)).trans (((belowOrd B)).trans (((belowOrd B)).refl W0) hM3) hM4));have HO5:Hid (OwnI B v4 (intsZ (acc ++ [c])) wM4):=Hh (by rw [ints_one];exact hO4.out)
    clear hO4 hsl hM3 hM4 hN3 hN4 hC3 hB4;go_wp2;go_roundg rd.length
    case rel => exact ⟨rd,acc ++ [c],v4,rfl,rfl,rfl,HO5,HLE',by rw [List.length_append,List.length_singleton];omega,HGW⟩
    case measure => omega
 ·rw [hp,ht] at HC
  rw [readQ_other hh];clear hp ht hh
  go_enter Tryz.func92,Tryz.ntmps92
  go_wp2_with fail;refine (HC.out).mono ?_;rintro x w' ⟨rfl,rfl⟩;clear HC;go_wp2;go_ret3;exact ⟨none,0,rfl,Nat.le_refl _,(fun h => absurd h (by simp [mkL])),Grow.refl _⟩
end Go.Proofs.YteoogioanjkacaaGreatDoor.Quo
