/-
  Contracts, joined: RCopy. Nothing is claimed here by itself.
-/
import Derived.Test.YteoogioanjkacaaGreatDoorU01
import Derived.Test.YteoogioanjkacaaGreatDoorU02
set_option maxRecDepth 100000
set_option maxHeartbeats 12800000
set_option linter.unusedSimpArgs false
set_option linter.unusedVariables false
namespace Go.Proofs.YteoogioanjkacaaGreatDoor
open Go.RowKit Go.Lib
def NewN (B:Nat) (A:Option Addr) (xs:List Int) (w:World):Prop:=NumsT (fun b => B ≤ b ∧ b < w.heap.size) w A xs
def NewD (B:Nat) (A:Option Addr) (ds:List (Int × Int)) (w:World):Prop:=DecsT (fun b => B ≤ b ∧ b < w.heap.size) w A ds
theorem NewN.grow {B:Nat} {A:Option Addr} {xs:List Int} {w w':World} (h:NewN B A xs w) (hg:Grow w w'):NewN B A xs w':=h.keep fun b hb => ⟨⟨hb.1,Nat.lt_of_lt_of_le hb.2 hg.size⟩,hg.block b hb.2⟩
theorem NewD.grow {B:Nat} {A:Option Addr} {ds:List (Int × Int)} {w w':World} (h:NewD B A ds w) (hg:Grow w w'):NewD B A ds w':=h.keep fun b hb => ⟨⟨hb.1,Nat.lt_of_lt_of_le hb.2 hg.size⟩,hg.block b hb.2⟩
theorem wp_cat_nums {o:Oper} {a:Act} {w:World} {K:Act → World → Prop} {Q:Exit → Act → World → Prop} (s x:Operand)
  (ho:o.op = .call { callee:=.builtin .append,args:=#[s,x],argTypes:=#[31,31] }) (B:Nat) (ad:Addr) (l c:Nat) (A:Option Addr) (xs:List Int)
  (hs:a.eval s = .slice (some ad) 0 0) (hx:a.eval x = .slice A l c) (hl:xs.length = l) (hb:l ≤ 1000000000) (hxs:Nums .i64 w w.heap.size A xs) (hB:B ≤ w.heap.size)
  (h:∀ A' c' w',NewN B A' xs w' → Grow w w' → K (a.put o.dst (.slice A' l c')) w'):o.wp Tryz.prog a w K Q:=by
 obtain ⟨i0,hi,hz0,hz1,hz2⟩:=info_of info_int;subst hl
 by_cases hm0:xs.length = 0
 ·rw [hm0] at hx h
  have hr:=run_append_nothing 31 o.type 3 i0 Tryz.underlying31 hi ad 0 c A w;unfold Oper.wp;simp [execOp,ho,resolve,invoke,builtin,hs,hx,hr,Result.andThen];exact h _ _ _ (fun hp => by rw [hm0] at hp;exact absurd hp (Nat.lt_irrefl _)) (Grow.refl _)
 ·have hsrc:=src_nums hxs
  obtain ⟨av,rfl,hvc⟩:=hsrc (by rw [ivs_len];omega)
  obtain ⟨v',w',hr,h2,h3⟩:=run_append_arg_grows (P:=Tryz.prog) w 31 o.type 3 i0 _ 1 8 Tryz.underlying31 hi hz0 hz1 hz2 rfl (by decide) ad 0 0 [] rfl (fun j u hj => by simp at hj) av xs.length c (ivs xs) (ivs_len xs) hvc (by omega) (by unfold maxLen;omega) (by omega)
  have hg:Grow w w':=(Below.refl _ _).grown h3 (Nat.le_refl _) (fun k hk => by cases hk)
  rw [Nat.zero_add,List.nil_append] at h2
  rcases h2.2 with ⟨_,h0⟩ | ⟨g,cap,cur,rfl,hbg,hgg,hnc,hcm,hsz,htake⟩
  ·omega
  ·unfold Oper.wp
   simp [execOp,ho,resolve,invoke,builtin,hs,hx,hr,Result.andThen];refine h _ _ _ (fun _ => ⟨g,0,rfl,⟨Nat.le_trans hB hbg,heap_lt hgg⟩,fun i hi => ?_⟩) hg;have hj:(ivs xs)[i]? = some (.int .i64 (xs.getD i 0)):=by simp [ivs,hi]
   rw [Nat.zero_add,cell_of_row w' g i cur _ (0,0) hgg,← hj,← htake,List.getElem?_take,if_pos (by omega),Array.getElem?_toList]
theorem wp_cat_decs {o:Oper} {a:Act} {w:World} {K:Act → World → Prop} {Q:Exit → Act → World → Prop} (s x:Operand)
  (ho:o.op = .call { callee:=.builtin .append,args:=#[s,x],argTypes:=#[32,32] }) (B:Nat) (ad:Addr) (l c:Nat) (A:Option Addr) (xs:List (Int × Int))
  (hs:a.eval s = .slice (some ad) 0 0) (hx:a.eval x = .slice A l c) (hl:xs.length = l) (hb:l ≤ 1000000000) (hxs:Decs w w.heap.size A xs) (hB:B ≤ w.heap.size)
  (h:∀ A' c' w',NewD B A' xs w' → Grow w w' → K (a.put o.dst (.slice A' l c')) w'):o.wp Tryz.prog a w K Q:=by
 obtain ⟨i0,hi,hz0,hz1,hz2⟩:=info_of info_dec;subst hl
 by_cases hm0:xs.length = 0
 ·rw [hm0] at hx h
  have hr:=run_append_nothing 32 o.type 41 i0 Tryz.underlying32 hi ad 0 c A w;unfold Oper.wp;simp [execOp,ho,resolve,invoke,builtin,hs,hx,hr,Result.andThen];exact h _ _ _ (fun hp => by rw [hm0] at hp;exact absurd hp (Nat.lt_irrefl _)) (Grow.refl _)
 ·have hsrc:=src_decs hxs
  obtain ⟨av,rfl,hvc⟩:=hsrc (by rw [dvs_len];omega)
  obtain ⟨v',w',hr,h2,h3⟩:=run_append_arg_grows (P:=Tryz.prog) w 32 o.type 41 i0 _ 2 16 Tryz.underlying32 hi hz0 hz1 hz2 rfl (by decide) ad 0 0 [] rfl (fun j u hj => by simp at hj) av xs.length c (dvs xs) (dvs_len xs) hvc (by omega) (by unfold maxLen;omega) (by omega)
  have hg:Grow w w':=(Below.refl _ _).grown h3 (Nat.le_refl _) (fun k hk => by cases hk)
  rw [Nat.zero_add,List.nil_append] at h2
  rcases h2.2 with ⟨_,h0⟩ | ⟨g,cap,cur,rfl,hbg,hgg,hnc,hcm,hsz,htake⟩
  ·omega
  ·unfold Oper.wp
   simp [execOp,ho,resolve,invoke,builtin,hs,hx,hr,Result.andThen];refine h _ _ _ (fun _ => ⟨g,0,rfl,⟨Nat.le_trans hB hbg,heap_lt hgg⟩,fun i hi => ?_⟩) hg;obtain ⟨g1,g2⟩:=dvs_get xs i hi;rw [Nat.zero_add,cell_of_row w' g _ cur _ (0,0) hgg,cell_of_row w' g _ cur _ (0,0) hgg,← g1,← g2,← htake];rw [List.getElem?_take,if_pos (by omega),List.getElem?_take,if_pos (by omega),Array.getElem?_toList,Array.getElem?_toList]
   exact ⟨rfl,rfl⟩
def OwnRN (B:Nat) (v:Value) (ns:List Nd) (w:World):Prop :=
 B ≤ w.heap.size ∧ ∃ vals,w.ownsRow B 34 4 v ns.length vals ∧ ∀ i,i < ns.length → HeldN (fun b => B ≤ b ∧ v.ownBlock ≠ some b ∧ b < w.heap.size) w (fun j => vals.getD j undef) i (ns.getD i nd0)
theorem ownRN_nil {B:Nat} {w:World} (hB:B ≤ w.heap.size):OwnRN B (.slice none 0 0) [] w:=⟨hB,[],World.ownsRow_nil _ _ _ _,fun i hi => absurd hi (by simp)⟩
theorem OwnRN.grow {B:Nat} {v:Value} {ns:List Nd} {w w':World} (h:OwnRN B v ns w) (hg:Grow w w'):OwnRN B v ns w':=by
 obtain ⟨hB,vals,ho,hn⟩:=h;exact ⟨Nat.le_trans hB hg.size,vals,ownsRow_grow ho hg,fun i hi => (hn i hi).keep (fun b hb => ⟨⟨hb.1,hb.2.1,Nat.lt_of_lt_of_le hb.2.2 hg.size⟩,hg.block b hb.2.2⟩) (fun _ _ _ => rfl)⟩
theorem OwnRN.nodes {B:Nat} {v:Value} {ns:List Nd} {w:World} (h:OwnRN B v ns w):∃ A c,v = .slice A ns.length c ∧ ns.length ≤ c ∧ NodesT (fun b => B ≤ b ∧ b < w.heap.size) w A ns:=by
 obtain ⟨hB,vals,ho,hn⟩:=h
 rcases ho.2 with ⟨rfl,h0⟩ | ⟨g,cap,cur,rfl,hbg,hgg,hnc,hcm,hsz,htake⟩
 ·have:ns = []:=List.eq_nil_of_length_eq_zero h0
  subst this;exact ⟨none,0,rfl,Nat.le_refl _,fun hp => absurd hp (by simp)⟩
 ·refine ⟨some ⟨g,0,none⟩,cap,rfl,hnc,fun hp => ⟨g,0,rfl,⟨hbg,heap_lt hgg⟩,fun i hi => ?_⟩⟩
  obtain ⟨A1,c1,A2,c2,A3,c3,h0,h1,h2,h3,n1,n2,n3⟩:=hn i hi;have hl:=ho.1;have cell:∀ j v,j < ns.length * 4 → vals.getD j undef = v → w.cell? ⟨g,j,none⟩ = some v:=fun j v hj hv => by
   have hj':j < vals.length:=by omega
   rw [cell_of_row w g j cur _ (0,0) hgg,← hv,← Array.getElem?_toList];rw [show vals.getD j undef = vals[j] by simp [List.getD,hj'],← List.getElem?_eq_getElem hj',← htake,List.getElem?_take,if_pos hj]
  have hw:∀ b,(B ≤ b ∧ Value.ownBlock (.slice (some ⟨g,0,none⟩) ns.length cap) ≠ some b ∧ b < w.heap.size) → (B ≤ b ∧ b < w.heap.size) ∧ w.heap[b]? = w.heap[b]?:=fun b hb => ⟨⟨hb.1,hb.2.2⟩,rfl⟩;rw [Nat.zero_add];exact ⟨A1,c1,A2,c2,A3,c3,cell _ _ (by omega) h0,cell _ _ (by omega) h1,cell _ _ (by omega) h2,cell _ _ (by omega) h3,n1.keep hw,n2.keep hw,n3.keep hw⟩
theorem wp_append_node {o:Oper} {a:Act} {w:World} {K:Act → World → Prop} {Q:Exit → Act → World → Prop} (s x:Operand)
  (ho:o.op = .call { callee:=.builtin .append,args:=#[s,x],argTypes:=#[22,22] }) (B B0:Nat) (v:Value) (ns:List Nd) (n:Nd) (g:Nat) (A1 A2 A3:Option Addr) (c1 c2 c3:Nat)
  (hs:a.eval s = v) (hown:OwnRN B v ns w) (hx:a.eval x = .slice (some ⟨g,0,none⟩) 1 1) (hbox:BoxN w g n.kind A1 n.shp.length c1 A2 n.ints.length c2 A3 n.decs.length c3)
  (h1:NewN B0 A1 n.shp w) (h2:NewN B0 A2 n.ints w) (h3:NewD B0 A3 n.decs w) (hB:B ≤ B0) (hv0:∀ k,v.ownBlock = some k → k < B0) (hb:ns.length ≤ 1100000)
  (h:∀ v' w',OwnRN B v' (ns ++ [n]) w' → Below B w w' → K (a.put o.dst v') w'):o.wp Tryz.prog a w K Q:=by
 obtain ⟨i0,hi,hz0,hz1,hz2⟩:=info_of info_node;obtain ⟨hBw,vals,hown,hns⟩:=hown;obtain ⟨v',w',hr,hown',hgrow,_,hat⟩:=run_append_own_at (P:=Tryz.prog) w B 22 o.type 34 i0 _ 4 80 Tryz.underlying22 hi hz0 hz1 hz2 rfl (by decide) v ns.length vals hown ⟨g,0,none⟩ 1 1
  [.int .i64 n.kind,.slice A1 n.shp.length c1,.slice A2 n.ints.length c2,.slice A3 n.decs.length c3] rfl (fun j u hj => by
   rw [addr_add,Nat.zero_add]
   match j,hj with
   | 0,hj => cases hj;exact hbox.at0
   | 1,hj => cases hj;exact hbox.at1
   | 2,hj => cases hj;exact hbox.at2
   | 3,hj => cases hj;exact hbox.at3
   | j + 4,hj => simp at hj) (fun u hu => by
   simp only [List.mem_cons,List.not_mem_nil,or_false] at hu
   rcases hu with rfl | rfl | rfl | rfl <;> rfl) (by unfold maxLen;omega) (by omega) hBw
 have hbel:Below B w w':=Below.grown (Below.refl _ _) hgrow hBw (fun g hg => (hown.lt g hg).1);unfold Oper.wp;simp [execOp,ho,resolve,invoke,builtin,hs,hx,hr,Result.andThen];refine h v' w' ⟨Nat.le_trans hBw hgrow.size,vals ++ [.int .i64 n.kind,.slice A1 n.shp.length c1,.slice A2 n.ints.length c2,.slice A3 n.decs.length c3],by rw [List.length_append];exact hown',fun i hi => ?_⟩ hbel
 have hkeep:∀ b,(B ≤ b ∧ v.ownBlock ≠ some b ∧ b < w.heap.size) → (B ≤ b ∧ v'.ownBlock ≠ some b ∧ b < w'.heap.size) ∧ w'.heap[b]? = w.heap[b]?:=fun b hb => by
  refine ⟨⟨hb.1,?_,Nat.lt_of_lt_of_le hb.2.2 hgrow.size⟩,hgrow.block b hb.2.2 (fun e => hb.2.1 e.symm)⟩;intro e
  rcases hat with h | h
  ·exact hb.2.1 (h.symm.trans e)
  ·rw [h] at e;cases e;omega
 have hnew:∀ b,(B0 ≤ b ∧ b < w.heap.size) → (B ≤ b ∧ v'.ownBlock ≠ some b ∧ b < w'.heap.size) ∧ w'.heap[b]? = w.heap[b]?:=fun b hb => hkeep b ⟨by omega,fun e => by have:=hv0 b e;omega,hb.2⟩
 have hvl:vals.length = ns.length * 4:=hown.1
 by_cases hik:i < ns.length
 ·have e1:(ns ++ [n]).getD i nd0 = ns.getD i nd0:=by simp [List.getD,List.getElem?_append_left hik]
  rw [e1];exact (hns i hik).keep hkeep (fun j h1 h2 => by simp only [List.getD];rw [List.getElem?_append_left (by omega)])
 ·have hik':i = ns.length:=by rw [List.length_append] at hi;simp at hi;omega
  subst hik';have e1:(ns ++ [n]).getD ns.length nd0 = n:=by simp
  rw [e1];have e2:∀ r,r < 4 → (vals ++ [Value.int .i64 n.kind,.slice A1 n.shp.length c1,.slice A2 n.ints.length c2,.slice A3 n.decs.length c3]).getD (ns.length * 4 + r) undef = [Value.int .i64 n.kind,.slice A1 n.shp.length c1,.slice A2 n.ints.length c2,.slice A3 n.decs.length c3].getD r undef:=fun r hr => by
   simp only [List.getD];rw [List.getElem?_append_right (by omega),hvl,Nat.add_sub_cancel_left]
  exact ⟨A1,c1,A2,c2,A3,c3,e2 0 (by decide),e2 1 (by decide),e2 2 (by decide),e2 3 (by decide),h1.keep hnew,h2.keep hnew,h3.keep hnew⟩
def RCopyP (ns:List Nd) (w:World) (e:Ending) (w':World):Prop:=∃ A c,e = .returned (.slice A ns.length c) ∧ ns.length ≤ c ∧ NodesT (fun b => w.heap.size ≤ b ∧ b < w'.heap.size) w' A ns ∧ Grow w w'
theorem rcopy_any (A:Option Addr) (n c:Nat) (ns:List Nd) (w:World) (hn:ns.length = n) (hnb:n ≤ 1100000) (hf:Fits ns) (hns:Nodes w w.heap.size A ns) :
  Calls Tryz.prog 107 #[.slice A n c] w (RCopyP ns w):=by
 have HF:=Hh hf;have HNS:=Hh hns;have HN:=Hh hn;clear hf hns hn;obtain ⟨B,hB⟩:∃ B,w.heap.size = B:=⟨_,rfl⟩;have HBE:=Hh hB;rw [hB] at HNS;clear hB
 go_enter Tryz.func107,Tryz.ntmps107
 go_wp2
 go_loopg [3,4] n (fun g s3 s4 wr => ∃ (k:Nat) (v:Value),k ≤ n ∧ g = n - k ∧ s4 = .int .i64 k ∧ v = s3 ∧ Hid (OwnRN B v (ns.take k) wr) ∧ Hid (Below B w wr))
 case atStart => exact ⟨0,_,Nat.zero_le _,rfl,rfl,rfl,Hh (ownRN_nil (by rw [HBE.out];exact Nat.le_refl _)),Hh (Below.refl _ _)⟩
 case round =>
  obtain ⟨k,v,hk,rfl,rfl,rfl,HO,HG⟩:=hrel
  by_cases hlt:k < n
  ·have hlti:((k:Nat):Int) < ((n:Nat):Int):=by omega
   have hkl:k < ns.length:=by rw [HN.out];exact hlt
   obtain ⟨b,off,rfl,hb,hat⟩:=HNS.out (by omega)
   obtain ⟨A1,c1,A2,c2,A3,c3,p0,p1,p2,p3,hnd⟩:=hat k hkl;have HTK:=Hh (take_one hkl);have HFK:=Hh (HF.out.at_ k);clear hat;obtain ⟨nd,hnd0⟩:∃ nd,ns.getD k nd0 = nd:=⟨_,rfl⟩;rw [hnd0] at p0 p1 p2 p3 hnd HTK HFK;have HND:=Hh hnd;have HB0:=Hh hb;have P0:=Hh p0;have P1:=Hh p1;have P2:=Hh p2;have P3:=Hh p3;have HTL:Hid ((ns.take k).length = k):=Hh (by rw [List.length_take];omega)
   clear hnd hnd0 hb p0 p1 p2 p3;go_wp2;refine wp_region_R ((Below B)) (n:=31) rfl (by kernel_rfl) ?_
   intro W0 hW0e hW0;have hO:OwnRN B v (ns.take k) W0:=HO.out.grow hW0;have HZ0:=Hh hO.1;have HOL:Hid (∀ j,v.ownBlock = some j → j < W0.heap.size):=Hh (by obtain ⟨_,vals,ho,_⟩:=hO;exact fun j hj => (ho.lt j hj).2)
   have HGZ:=Hh (Below.trans HG.out (Below.mono hW0 HO.out.1));have p0:∀ wg,Below B W0 wg → wg.cell? ⟨b,off + k * 4,none⟩ = some (.int .i64 nd.kind):=fun wg h => ((Below.trans HGZ.out h).cell (p:=⟨b,off + k * 4,none⟩) HB0.out).trans P0.out;have p1:∀ wg,Below B W0 wg → wg.cell? ⟨b,off + k * 4 + 1,none⟩ = some (.slice A1 nd.shp.length c1):=fun wg h => ((Below.trans HGZ.out h).cell (p:=⟨b,off + k * 4 + 1,none⟩) HB0.out).trans P1.out;have p2:∀ wg,Below B W0 wg → wg.cell? ⟨b,off + k * 4 + 2,none⟩ = some (.slice A2 nd.ints.length c2):=fun wg h => ((Below.trans HGZ.out h).cell (p:=⟨b,off + k * 4 + 2,none⟩) HB0.out).trans P2.out;have p3:∀ wg,Below B W0 wg → wg.cell? ⟨b,off + k * 4 + 3,none⟩ = some (.slice A3 nd.decs.length c3):=fun wg h => ((Below.trans HGZ.out h).cell (p:=⟨b,off + k * 4 + 3,none⟩) HB0.out).trans P3.out;have HSRC:Hid (∀ wg,Below B W0 wg → IsNd wg wg.heap.size A1 A2 A3 nd ∧ B ≤ wg.heap.size):=Hh (fun wg h => ⟨(HND.out.below (Below.trans HGZ.out h)).more (Nat.le_trans HZ0.out h.size),Nat.le_trans HZ0.out h.size⟩);clear hW0;clear hW0e;refine wpR_take (belowOrd B) (i:=0) (v:=?vf1) rfl (by kernel_rfl) (by kernel_rfl) (by kernel_rfl) (fun _ _ _ h => h) (by rfl) ?hf1 ?rf1
   case hf1 => (intro wg hSw;go_simp <;> with_reducible rfl)
   simp only [Act.put,List.setIfInBounds_toArray,List.set_cons_zero,List.set_cons_succ];refine wpR_take (belowOrd B) (i:=1) (v:=?vf2) rfl (by kernel_rfl) (by kernel_rfl) (by kernel_rfl) (fun _ _ _ h => h) (by rfl) ?hf2 ?rf2
   case hf2 => (intro wg hSw;go_simp <;> with_reducible rfl)
   simp only [Act.put,List.setIfInBounds_toArray,List.set_cons_zero,List.set_cons_succ];refine wpR_take (belowOrd B) (i:=2) (v:=?vf3) rfl (by kernel_rfl) (by kernel_rfl) (by kernel_rfl) (fun _ _ _ h => h) (by rfl) ?hf3 ?rf3
   case hf3 => (intro wg hSw;go_simp <;> with_reducible rfl)
   simp only [Act.put,List.setIfInBounds_toArray,List.set_cons_zero,List.set_cons_succ];refine wpR_take (belowOrd B) (i:=3) (v:=?vf4) rfl (by kernel_rfl) (by kernel_rfl) (by kernel_rfl) (fun _ _ _ h => h) (by rfl) ?hf4 ?rf4
   case hf4 => (intro wg hSw;go_simp <;> with_reducible rfl)
   simp only [Act.put,List.setIfInBounds_toArray,List.set_cons_zero,List.set_cons_succ];refine wpR_take (belowOrd B) (i:=4) (v:=?vf5) rfl (by kernel_rfl) (by kernel_rfl) (by kernel_rfl) (fun _ _ _ h => h) (by rfl) ?hf5 ?rf5
   case hf5 => (intro wg hSw;go_simp <;> with_reducible rfl)
   simp only [Act.put,List.setIfInBounds_toArray,List.set_cons_zero,List.set_cons_succ];refine wpR_take (belowOrd B) (i:=5) (v:=?vf6) rfl (by kernel_rfl) (by kernel_rfl) (by kernel_rfl) (fun _ _ _ h => h) (by rfl) ?hf6 ?rf6
   case hf6 => (intro wg hSw;go_simp <;> with_reducible rfl)
   simp only [Act.put,List.setIfInBounds_toArray,List.set_cons_zero,List.set_cons_succ];refine wpR_take (belowOrd B) (i:=7) (v:=?vf7) rfl (by kernel_rfl) (by kernel_rfl) (by kernel_rfl) (fun _ _ _ h => h) (by rfl) ?hf7 ?rf7
   case hf7 => (intro wg hSw;go_simp <;> with_reducible rfl)
   simp only [Act.put,List.setIfInBounds_toArray,List.set_cons_zero,List.set_cons_succ];refine wpR_take (belowOrd B) (i:=8) (v:=?vf8) rfl (by kernel_rfl) (by kernel_rfl) (by kernel_rfl) (fun _ _ _ h => h) (by rfl) ?hf8 ?rf8
   case hf8 => (intro wg hSw;go_simp <;> with_reducible rfl)
   simp only [Act.put,List.setIfInBounds_toArray,List.set_cons_zero,List.set_cons_succ];refine wpR_take (belowOrd B) (i:=9) (v:=?vf9) rfl (by kernel_rfl) (by kernel_rfl) (by kernel_rfl) (fun _ _ _ h => h) (by rfl) ?hf9 ?rf9
   case hf9 => (intro wg hSw;go_simp <;> with_reducible rfl)
   simp only [Act.put,List.setIfInBounds_toArray,List.set_cons_zero,List.set_cons_succ];refine wpR_take (belowOrd B) (i:=10) (v:=?vf10) rfl (by kernel_rfl) (by kernel_rfl) (by kernel_rfl) (fun _ _ _ h => h) (by rfl) ?hf10 ?rf10
   case hf10 => (intro wg hSw;go_simp <;> with_reducible rfl)
   simp only [Act.put,List.setIfInBounds_toArray,List.set_cons_zero,List.set_cons_succ];refine wpR_take (belowOrd B) (i:=11) (v:=?vf11) rfl (by kernel_rfl) (by kernel_rfl) (by kernel_rfl) (fun _ _ _ h => h) (by rfl) ?hf11 ?rf11
   case hf11 => (intro wg hSw;go_simp <;> with_reducible rfl)
   simp only [Act.put,List.setIfInBounds_toArray,List.set_cons_zero,List.set_cons_succ];refine wpR_take (belowOrd B) (i:=14) (v:=?vf12) rfl (by kernel_rfl) (by kernel_rfl) (by kernel_rfl) (fun _ _ _ h => h) (by rfl) ?hf12 ?rf12
   case hf12 => (intro wg hSw;go_simp <;> with_reducible rfl)
   simp only [Act.put,List.setIfInBounds_toArray,List.set_cons_zero,List.set_cons_succ];refine wpR_take (belowOrd B) (i:=15) (v:=?vf13) rfl (by kernel_rfl) (by kernel_rfl) (by kernel_rfl) (fun _ _ _ h => h) (by rfl) ?hf13 ?rf13
   case hf13 => (intro wg hSw;go_simp <;> with_reducible rfl)
   simp only [Act.put,List.setIfInBounds_toArray,List.set_cons_zero,List.set_cons_succ];refine wpR_take (belowOrd B) (i:=16) (v:=?vf14) rfl (by kernel_rfl) (by kernel_rfl) (by kernel_rfl) (fun _ _ _ h => h) (by rfl) ?hf14 ?rf14
   case hf14 => (intro wg hSw;go_simp <;> with_reducible rfl)
   simp only [Act.put,List.setIfInBounds_toArray,List.set_cons_zero,List.set_cons_succ];refine wpR_take (belowOrd B) (i:=17) (v:=?vf15) rfl (by kernel_rfl) (by kernel_rfl) (by kernel_rfl) (fun _ _ _ h => h) (by rfl) ?hf15 ?rf15
   case hf15 => (intro wg hSw;go_simp <;> with_reducible rfl)
   simp only [Act.put,List.setIfInBounds_toArray,List.set_cons_zero,List.set_cons_succ];refine wpR_take (belowOrd B) (i:=18) (v:=?vf16) rfl (by kernel_rfl) (by kernel_rfl) (by kernel_rfl) (fun _ _ _ h => h) (by rfl) ?hf16 ?rf16
   case hf16 => (intro wg hSw;go_simp <;> with_reducible rfl)
   simp only [Act.put,List.setIfInBounds_toArray,List.set_cons_zero,List.set_cons_succ];refine wpR_take (belowOrd B) (i:=21) (v:=?vf17) rfl (by kernel_rfl) (by kernel_rfl) (by kernel_rfl) (fun _ _ _ h => h) (by rfl) ?hf17 ?rf17
   case hf17 => (intro wg hSw;go_simp <;> with_reducible rfl)
   simp only [Act.put,List.setIfInBounds_toArray,List.set_cons_zero,List.set_cons_succ];refine wpR_take (belowOrd B) (i:=22) (v:=?vf18) rfl (by kernel_rfl) (by kernel_rfl) (by kernel_rfl) (fun _ _ _ h => h) (by rfl) ?hf18 ?rf18
   case hf18 => (intro wg hSw;go_simp <;> with_reducible rfl)
   simp only [Act.put,List.setIfInBounds_toArray,List.set_cons_zero,List.set_cons_succ];refine wpR_take (belowOrd B) (i:=23) (v:=?vf19) rfl (by kernel_rfl) (by kernel_rfl) (by kernel_rfl) (fun _ _ _ h => h) (by rfl) ?hf19 ?rf19
   case hf19 => (intro wg hSw;go_simp <;> with_reducible rfl)
   simp only [Act.put,List.setIfInBounds_toArray,List.set_cons_zero,List.set_cons_succ];refine wpR_take (belowOrd B) (i:=24) (v:=?vf20) rfl (by kernel_rfl) (by kernel_rfl) (by kernel_rfl) (fun _ _ _ h => h) (by rfl) ?hf20 ?rf20
   case hf20 => (intro wg hSw;go_simp <;> with_reducible rfl)
   simp only [Act.put,List.setIfInBounds_toArray,List.set_cons_zero,List.set_cons_succ];refine wpR_take (belowOrd B) (i:=25) (v:=?vf21) rfl (by kernel_rfl) (by kernel_rfl) (by kernel_rfl) (fun _ _ _ h => h) (by rfl) ?hf21 ?rf21
   case hf21 => (intro wg hSw;go_simp <;> with_reducible rfl)
   simp only [Act.put,List.setIfInBounds_toArray,List.set_cons_zero,List.set_cons_succ];refine wpR_three (i:=6) (j:=13) (k:=20) (by kernel_rfl) ?_ ?_ ?_
   ·refine wpR_op (i:=6) rfl (by rfl) (fun K hK => ?_)
    go_simp;refine hK.out _ _ (Below.mono (grow_new _ _) (HSRC.out _ (((belowOrd B)).refl W0)).2) ?_;clear hK K
    try simp only [Act.put,List.setIfInBounds_toArray,List.set_cons_zero,List.set_cons_succ]
    generalize hwM6:World.alloc W0 (Obj.cells #[] 3) = wM6;have hN6:Grow W0 wM6:=by rw [← hwM6];exact grow_new _ _
    have hM6:Below B W0 wM6:=Below.mono hN6 (HSRC.out _ (((belowOrd B)).refl W0)).2;clear hwM6;refine wpR_three (i:=12) (j:=13) (k:=20) (by kernel_rfl) ?_ ?_ ?_
    ·refine wpR_op (i:=12) rfl (by rfl) (fun K hK => ?_)
     refine wp_cat_nums _ _ rfl W0.heap.size _ nd.shp.length c1 A1 nd.shp rfl rfl rfl (Nat.le_trans HFK.out.2.1 (by decide)) (HSRC.out _ (((belowOrd B)).trans (((belowOrd B)).refl W0) hM6)).1.1 (Below.size (((belowOrd B)).trans (((belowOrd B)).refl W0) hM6)) ?_
     intro A12 c12 wM12 hC12 hN12;have hM12:Below B wM6 wM12:=Below.mono hN12 (HSRC.out _ (((belowOrd B)).trans (((belowOrd B)).refl W0) hM6)).2;refine hK.out _ _ hM12 ?_;clear hK K
     try simp only [Act.put,List.setIfInBounds_toArray,List.set_cons_zero,List.set_cons_succ]
     refine wpR_two (i:=13) (j:=20) (by kernel_rfl) ?_ ?_
     ·refine wpR_op (i:=13) rfl (by rfl) (fun K hK => ?_)
      go_simp;refine hK.out _ _ (Below.mono (grow_new _ _) (HSRC.out _ (((belowOrd B)).trans (((belowOrd B)).trans (((belowOrd B)).refl W0) hM6) hM12)).2) ?_;clear hK K
      try simp only [Act.put,List.setIfInBounds_toArray,List.set_cons_zero,List.set_cons_succ]
      generalize hwM13:World.alloc wM12 (Obj.cells #[] 3) = wM13;have hN13:Grow wM12 wM13:=by rw [← hwM13];exact grow_new _ _
      have hM13:Below B wM12 wM13:=Below.mono hN13 (HSRC.out _ (((belowOrd B)).trans (((belowOrd B)).trans (((belowOrd B)).refl W0) hM6) hM12)).2;clear hwM13;refine wpR_two (i:=19) (j:=20) (by kernel_rfl) ?_ ?_
      ·refine wpR_op (i:=19) rfl (by rfl) (fun K hK => ?_)
       refine wp_cat_nums _ _ rfl W0.heap.size _ nd.ints.length c2 A2 nd.ints rfl rfl rfl (Nat.le_trans HFK.out.2.2.1 (by decide)) (HSRC.out _ (((belowOrd B)).trans (((belowOrd B)).trans (((belowOrd B)).trans (((belowOrd B)).refl W0) hM6) hM12) hM13)).1.2.1 (Below.size (((belowOrd B)).trans (((belowOrd B)).trans (((belowOrd B)).trans (((belowOrd B)).refl W0) hM6) hM12) hM13)) ?_
       intro A19 c19 wM19 hC19 hN19;have hM19:Below B wM13 wM19:=Below.mono hN19 (HSRC.out _ (((belowOrd B)).trans (((belowOrd B)).trans (((belowOrd B)).trans (((belowOrd B)).refl W0) hM6) hM12) hM13)).2;refine hK.out _ _ hM19 ?_;clear hK K
       try simp only [Act.put,List.setIfInBounds_toArray,List.set_cons_zero,List.set_cons_succ]
       refine wpR_one (i:=20) (by kernel_rfl) ?_
       refine wpR_op (i:=20) rfl (by rfl) (fun K hK => ?_)
       go_simp;refine hK.out _ _ (Below.mono (grow_new _ _) (HSRC.out _ (((belowOrd B)).trans (((belowOrd B)).trans (((belowOrd B)).trans (((belowOrd B)).trans (((belowOrd B)).refl W0) hM6) hM12) hM13) hM19)).2) ?_;clear hK K
       try simp only [Act.put,List.setIfInBounds_toArray,List.set_cons_zero,List.set_cons_succ]
       generalize hwM20:World.alloc wM19 (Obj.cells #[] 41) = wM20;have hN20:Grow wM19 wM20:=by rw [← hwM20];exact grow_new _ _
       have hM20:Below B wM19 wM20:=Below.mono hN20 (HSRC.out _ (((belowOrd B)).trans (((belowOrd B)).trans (((belowOrd B)).trans (((belowOrd B)).trans (((belowOrd B)).refl W0) hM6) hM12) hM13) hM19)).2;clear hwM20;refine wpR_one (i:=26) (by kernel_rfl) ?_
       refine wpR_op (i:=26) rfl (by rfl) (fun K hK => ?_)
       refine wp_cat_decs _ _ rfl W0.heap.size _ nd.decs.length c3 A3 nd.decs rfl rfl rfl (Nat.le_trans HFK.out.2.2.2.1 (by decide)) (HSRC.out _ (((belowOrd B)).trans (((belowOrd B)).trans (((belowOrd B)).trans (((belowOrd B)).trans (((belowOrd B)).trans (((belowOrd B)).refl W0) hM6) hM12) hM13) hM19) hM20)).1.2.2 (Below.size (((belowOrd B)).trans (((belowOrd B)).trans (((belowOrd B)).trans (((belowOrd B)).trans (((belowOrd B)).trans (((belowOrd B)).refl W0) hM6) hM12) hM13) hM19) hM20)) ?_
       intro A26 c26 wM26 hC26 hN26;have hM26:Below B wM20 wM26:=Below.mono hN26 (HSRC.out _ (((belowOrd B)).trans (((belowOrd B)).trans (((belowOrd B)).trans (((belowOrd B)).trans (((belowOrd B)).trans (((belowOrd B)).refl W0) hM6) hM12) hM13) hM19) hM20)).2;refine hK.out _ _ hM26 ?_;clear hK K
       try simp only [Act.put,List.setIfInBounds_toArray,List.set_cons_zero,List.set_cons_succ]
       refine wpR_take (belowOrd B) (i:=27) (v:=?vf22) rfl (by kernel_rfl) (by kernel_rfl) (by kernel_rfl) (fun _ _ _ h => h) (by rfl) ?hf22 ?rf22
       case hf22 => (intro wg hSw;go_simp <;> with_reducible rfl)
       simp only [Act.put,List.setIfInBounds_toArray,List.set_cons_zero,List.set_cons_succ];refine wpR_one (i:=28) (by kernel_rfl) ?_
       refine wpR_op (i:=28) rfl (by rfl) (fun K hK => ?_)
       go_simp;refine hK.out _ _ (Below.mono (grow_new _ _) (HSRC.out _ (((belowOrd B)).trans (((belowOrd B)).trans (((belowOrd B)).trans (((belowOrd B)).trans (((belowOrd B)).trans (((belowOrd B)).trans (((belowOrd B)).refl W0) hM6) hM12) hM13) hM19) hM20) hM26)).2) ?_;clear hK K
       try simp only [Act.put,List.setIfInBounds_toArray,List.set_cons_zero,List.set_cons_succ]
       generalize hwM28:World.alloc wM26 (Obj.cells #[.int .i64 nd.kind,.slice A12 nd.shp.length c12,.slice A19 nd.ints.length c19,.slice A26 nd.decs.length c26] 34) = wM28;have hN28:Grow wM26 wM28:=by rw [← hwM28];exact grow_new _ _
       have hC28:BoxN wM28 (wM26).heap.size nd.kind A12 nd.shp.length c12 A19 nd.ints.length c19 A26 nd.decs.length c26:=by rw [← hwM28];exact boxN_new _ _ _ _ _ _ _ _ _ _ _
       have hM28:Below B wM26 wM28:=Below.mono hN28 (HSRC.out _ (((belowOrd B)).trans (((belowOrd B)).trans (((belowOrd B)).trans (((belowOrd B)).trans (((belowOrd B)).trans (((belowOrd B)).trans (((belowOrd B)).refl W0) hM6) hM12) hM13) hM19) hM20) hM26)).2;clear hwM28;refine wpR_one (i:=29) (by kernel_rfl) ?_
       refine wpR_op (i:=29) rfl (by rfl) (fun K hK => ?_)
       refine wp_append_node _ _ rfl B W0.heap.size v (ns.take k) nd _ A12 A19 A26 c12 c19 c26 rfl (((((((hO.grow hN6).grow hN12).grow hN13).grow hN19).grow hN20).grow hN26).grow hN28) rfl hC28 (((((hC12.grow hN13).grow hN19).grow hN20).grow hN26).grow hN28) (((hC19.grow hN20).grow hN26).grow hN28) (hC26.grow hN28) HZ0.out HOL.out (by rw [HTL.out];omega) ?_
       intro v29 wM29 hC29 hM29;refine hK.out _ _ hM29 ?_;clear hK K
       try simp only [Act.put,List.setIfInBounds_toArray,List.set_cons_zero,List.set_cons_succ]
       refine wpR_take (belowOrd B) (i:=30) (v:=?vf23) rfl (by kernel_rfl) (by kernel_rfl) (by kernel_rfl) (fun _ _ _ h => h) (by rfl) ?hf23 ?rf23
       case hf23 => (intro wg hSw;go_simp <;> with_reducible rfl)
       simp only [Act.put,List.setIfInBounds_toArray,List.set_cons_zero,List.set_cons_succ];refine wpR_done (by kernel_rfl) ?_
       have HGW:=Hh (Below.trans HGZ.out (((belowOrd B)).trans (((belowOrd B)).trans (((belowOrd B)).trans (((belowOrd B)).trans (((belowOrd B)).trans (((belowOrd B)).trans (((belowOrd B)).trans (((belowOrd B)).trans (((belowOrd B)).refl W0) hM6) hM12) hM13) hM19) hM20) hM26) hM28) hM29));have HON:=Hh hC29;clear p0 p1 p2 p3;go_wp2;go_roundg (n - (k + 1))
       case rel => exact ⟨k + 1,v29,by omega,rfl,by go_num,rfl,Hh (by rw [HTK.out];exact HON.out),HGW⟩
       case measure => omega
      ·refine wpR_op (i:=20) rfl (by rfl) (fun K hK => ?_)
       go_simp;refine hK.out _ _ (Below.mono (grow_new _ _) (HSRC.out _ (((belowOrd B)).trans (((belowOrd B)).trans (((belowOrd B)).trans (((belowOrd B)).refl W0) hM6) hM12) hM13)).2) ?_;clear hK K
       try simp only [Act.put,List.setIfInBounds_toArray,List.set_cons_zero,List.set_cons_succ]
       generalize hwM20:World.alloc wM13 (Obj.cells #[] 41) = wM20;have hN20:Grow wM13 wM20:=by rw [← hwM20];exact grow_new _ _
       have hM20:Below B wM13 wM20:=Below.mono hN20 (HSRC.out _ (((belowOrd B)).trans (((belowOrd B)).trans (((belowOrd B)).trans (((belowOrd B)).refl W0) hM6) hM12) hM13)).2;clear hwM20;refine wpR_one (i:=19) (by kernel_rfl) ?_
       refine wpR_op (i:=19) rfl (by rfl) (fun K hK => ?_)
       refine wp_cat_nums _ _ rfl W0.heap.size _ nd.ints.length c2 A2 nd.ints rfl rfl rfl (Nat.le_trans HFK.out.2.2.1 (by decide)) (HSRC.out _ (((belowOrd B)).trans (((belowOrd B)).trans (((belowOrd B)).trans (((belowOrd B)).trans (((belowOrd B)).refl W0) hM6) hM12) hM13) hM20)).1.2.1 (Below.size (((belowOrd B)).trans (((belowOrd B)).trans (((belowOrd B)).trans (((belowOrd B)).trans (((belowOrd B)).refl W0) hM6) hM12) hM13) hM20)) ?_
       intro A19 c19 wM19 hC19 hN19;have hM19:Below B wM20 wM19:=Below.mono hN19 (HSRC.out _ (((belowOrd B)).trans (((belowOrd B)).trans (((belowOrd B)).trans (((belowOrd B)).trans (((belowOrd B)).refl W0) hM6) hM12) hM13) hM20)).2;refine hK.out _ _ hM19 ?_;clear hK K
       try simp only [Act.put,List.setIfInBounds_toArray,List.set_cons_zero,List.set_cons_succ]
       refine wpR_one (i:=26) (by kernel_rfl) ?_
       refine wpR_op (i:=26) rfl (by rfl) (fun K hK => ?_)
       refine wp_cat_decs _ _ rfl W0.heap.size _ nd.decs.length c3 A3 nd.decs rfl rfl rfl (Nat.le_trans HFK.out.2.2.2.1 (by decide)) (HSRC.out _ (((belowOrd B)).trans (((belowOrd B)).trans (((belowOrd B)).trans (((belowOrd B)).trans (((belowOrd B)).trans (((belowOrd B)).refl W0) hM6) hM12) hM13) hM20) hM19)).1.2.2 (Below.size (((belowOrd B)).trans (((belowOrd B)).trans (((belowOrd B)).trans (((belowOrd B)).trans (((belowOrd B)).trans (((belowOrd B)).refl W0) hM6) hM12) hM13) hM20) hM19)) ?_
       intro A26 c26 wM26 hC26 hN26;have hM26:Below B wM19 wM26:=Below.mono hN26 (HSRC.out _ (((belowOrd B)).trans (((belowOrd B)).trans (((belowOrd B)).trans (((belowOrd B)).trans (((belowOrd B)).trans (((belowOrd B)).refl W0) hM6) hM12) hM13) hM20) hM19)).2;refine hK.out _ _ hM26 ?_;clear hK K
       try simp only [Act.put,List.setIfInBounds_toArray,List.set_cons_zero,List.set_cons_succ]
       refine wpR_take (belowOrd B) (i:=27) (v:=?vf24) rfl (by kernel_rfl) (by kernel_rfl) (by kernel_rfl) (fun _ _ _ h => h) (by rfl) ?hf24 ?rf24
       case hf24 => (intro wg hSw;go_simp <;> with_reducible rfl)
       simp only [Act.put,List.setIfInBounds_toArray,List.set_cons_zero,List.set_cons_succ];refine wpR_one (i:=28) (by kernel_rfl) ?_
       refine wpR_op (i:=28) rfl (by rfl) (fun K hK => ?_)
       go_simp;refine hK.out _ _ (Below.mono (grow_new _ _) (HSRC.out _ (((belowOrd B)).trans (((belowOrd B)).trans (((belowOrd B)).trans (((belowOrd B)).trans (((belowOrd B)).trans (((belowOrd B)).trans (((belowOrd B)).refl W0) hM6) hM12) hM13) hM20) hM19) hM26)).2) ?_;clear hK K
       try simp only [Act.put,List.setIfInBounds_toArray,List.set_cons_zero,List.set_cons_succ]
       generalize hwM28:World.alloc wM26 (Obj.cells #[.int .i64 nd.kind,.slice A12 nd.shp.length c12,.slice A19 nd.ints.length c19,.slice A26 nd.decs.length c26] 34) = wM28;have hN28:Grow wM26 wM28:=by rw [← hwM28];exact grow_new _ _
       have hC28:BoxN wM28 (wM26).heap.size nd.kind A12 nd.shp.length c12 A19 nd.ints.length c19 A26 nd.decs.length c26:=by rw [← hwM28];exact boxN_new _ _ _ _ _ _ _ _ _ _ _
       have hM28:Below B wM26 wM28:=Below.mono hN28 (HSRC.out _ (((belowOrd B)).trans (((belowOrd B)).trans (((belowOrd B)).trans (((belowOrd B)).trans (((belowOrd B)).trans (((belowOrd B)).trans (((belowOrd B)).refl W0) hM6) hM12) hM13) hM20) hM19) hM26)).2;clear hwM28;refine wpR_one (i:=29) (by kernel_rfl) ?_
       refine wpR_op (i:=29) rfl (by rfl) (fun K hK => ?_)
       refine wp_append_node _ _ rfl B W0.heap.size v (ns.take k) nd _ A12 A19 A26 c12 c19 c26 rfl (((((((hO.grow hN6).grow hN12).grow hN13).grow hN20).grow hN19).grow hN26).grow hN28) rfl hC28 (((((hC12.grow hN13).grow hN20).grow hN19).grow hN26).grow hN28) ((hC19.grow hN26).grow hN28) (hC26.grow hN28) HZ0.out HOL.out (by rw [HTL.out];omega) ?_
       intro v29 wM29 hC29 hM29;refine hK.out _ _ hM29 ?_;clear hK K
       try simp only [Act.put,List.setIfInBounds_toArray,List.set_cons_zero,List.set_cons_succ]
       refine wpR_take (belowOrd B) (i:=30) (v:=?vf25) rfl (by kernel_rfl) (by kernel_rfl) (by kernel_rfl) (fun _ _ _ h => h) (by rfl) ?hf25 ?rf25
       case hf25 => (intro wg hSw;go_simp <;> with_reducible rfl)
       simp only [Act.put,List.setIfInBounds_toArray,List.set_cons_zero,List.set_cons_succ];refine wpR_done (by kernel_rfl) ?_
       have HGW:=Hh (Below.trans HGZ.out (((belowOrd B)).trans (((belowOrd B)).trans (((belowOrd B)).trans (((belowOrd B)).trans (((belowOrd B)).trans (((belowOrd B)).trans (((belowOrd B)).trans (((belowOrd B)).trans (((belowOrd B)).refl W0) hM6) hM12) hM13) hM20) hM19) hM26) hM28) hM29));have HON:=Hh hC29;clear p0 p1 p2 p3;go_wp2;go_roundg (n - (k + 1))
       case rel => exact ⟨k + 1,v29,by omega,rfl,by go_num,rfl,Hh (by rw [HTK.out];exact HON.out),HGW⟩
       case measure => omega
     ·refine wpR_op (i:=20) rfl (by rfl) (fun K hK => ?_)
      go_simp;refine hK.out _ _ (Below.mono (grow_new _ _) (HSRC.out _ (((belowOrd B)).trans (((belowOrd B)).trans (((belowOrd B)).refl W0) hM6) hM12)).2) ?_;clear hK K
      try simp only [Act.put,List.setIfInBounds_toArray,List.set_cons_zero,List.set_cons_succ]
      generalize hwM20:World.alloc wM12 (Obj.cells #[] 41) = wM20;have hN20:Grow wM12 wM20:=by rw [← hwM20];exact grow_new _ _
      have hM20:Below B wM12 wM20:=Below.mono hN20 (HSRC.out _ (((belowOrd B)).trans (((belowOrd B)).trans (((belowOrd B)).refl W0) hM6) hM12)).2;clear hwM20;refine wpR_one (i:=13) (by kernel_rfl) ?_
      refine wpR_op (i:=13) rfl (by rfl) (fun K hK => ?_)
      go_simp;refine hK.out _ _ (Below.mono (grow_new _ _) (HSRC.out _ (((belowOrd B)).trans (((belowOrd B)).trans (((belowOrd B)).trans (((belowOrd B)).refl W0) hM6) hM12) hM20)).2) ?_;clear hK K
      try simp only [Act.put,List.setIfInBounds_toArray,List.set_cons_zero,List.set_cons_succ]
      generalize hwM13:World.alloc wM20 (Obj.cells #[] 3) = wM13;have hN13:Grow wM20 wM13:=by rw [← hwM13];exact grow_new _ _
      have hM13:Below B wM20 wM13:=Below.mono hN13 (HSRC.out _ (((belowOrd B)).trans (((belowOrd B)).trans (((belowOrd B)).trans (((belowOrd B)).refl W0) hM6) hM12) hM20)).2;clear hwM13;refine wpR_one (i:=19) (by kernel_rfl) ?_
      refine wpR_op (i:=19) rfl (by rfl) (fun K hK => ?_)
      refine wp_cat_nums _ _ rfl W0.heap.size _ nd.ints.length c2 A2 nd.ints rfl rfl rfl (Nat.le_trans HFK.out.2.2.1 (by decide)) (HSRC.out _ (((belowOrd B)).trans (((belowOrd B)).trans (((belowOrd B)).trans (((belowOrd B)).trans (((belowOrd B)).refl W0) hM6) hM12) hM20) hM13)).1.2.1 (Below.size (((belowOrd B)).trans (((belowOrd B)).trans (((belowOrd B)).trans (((belowOrd B)).trans (((belowOrd B)).refl W0) hM6) hM12) hM20) hM13)) ?_
      intro A19 c19 wM19 hC19 hN19;have hM19:Below B wM13 wM19:=Below.mono hN19 (HSRC.out _ (((belowOrd B)).trans (((belowOrd B)).trans (((belowOrd B)).trans (((belowOrd B)).trans (((belowOrd B)).refl W0) hM6) hM12) hM20) hM13)).2;refine hK.out _ _ hM19 ?_;clear hK K
      try simp only [Act.put,List.setIfInBounds_toArray,List.set_cons_zero,List.set_cons_succ]
      refine wpR_one (i:=26) (by kernel_rfl) ?_
      refine wpR_op (i:=26) rfl (by rfl) (fun K hK => ?_)
      refine wp_cat_decs _ _ rfl W0.heap.size _ nd.decs.length c3 A3 nd.decs rfl rfl rfl (Nat.le_trans HFK.out.2.2.2.1 (by decide)) (HSRC.out _ (((belowOrd B)).trans (((belowOrd B)).trans (((belowOrd B)).trans (((belowOrd B)).trans (((belowOrd B)).trans (((belowOrd B)).refl W0) hM6) hM12) hM20) hM13) hM19)).1.2.2 (Below.size (((belowOrd B)).trans (((belowOrd B)).trans (((belowOrd B)).trans (((belowOrd B)).trans (((belowOrd B)).trans (((belowOrd B)).refl W0) hM6) hM12) hM20) hM13) hM19)) ?_
      intro A26 c26 wM26 hC26 hN26;have hM26:Below B wM19 wM26:=Below.mono hN26 (HSRC.out _ (((belowOrd B)).trans (((belowOrd B)).trans (((belowOrd B)).trans (((belowOrd B)).trans (((belowOrd B)).trans (((belowOrd B)).refl W0) hM6) hM12) hM20) hM13) hM19)).2;refine hK.out _ _ hM26 ?_;clear hK K
      try simp only [Act.put,List.setIfInBounds_toArray,List.set_cons_zero,List.set_cons_succ]
      refine wpR_take (belowOrd B) (i:=27) (v:=?vf26) rfl (by kernel_rfl) (by kernel_rfl) (by kernel_rfl) (fun _ _ _ h => h) (by rfl) ?hf26 ?rf26
      case hf26 => (intro wg hSw;go_simp <;> with_reducible rfl)
      simp only [Act.put,List.setIfInBounds_toArray,List.set_cons_zero,List.set_cons_succ];refine wpR_one (i:=28) (by kernel_rfl) ?_
      refine wpR_op (i:=28) rfl (by rfl) (fun K hK => ?_)
      go_simp;refine hK.out _ _ (Below.mono (grow_new _ _) (HSRC.out _ (((belowOrd B)).trans (((belowOrd B)).trans (((belowOrd B)).trans (((belowOrd B)).trans (((belowOrd B)).trans (((belowOrd B)).trans (((belowOrd B)).refl W0) hM6) hM12) hM20) hM13) hM19) hM26)).2) ?_;clear hK K
      try simp only [Act.put,List.setIfInBounds_toArray,List.set_cons_zero,List.set_cons_succ]
      generalize hwM28:World.alloc wM26 (Obj.cells #[.int .i64 nd.kind,.slice A12 nd.shp.length c12,.slice A19 nd.ints.length c19,.slice A26 nd.decs.length c26] 34) = wM28;have hN28:Grow wM26 wM28:=by rw [← hwM28];exact grow_new _ _
      have hC28:BoxN wM28 (wM26).heap.size nd.kind A12 nd.shp.length c12 A19 nd.ints.length c19 A26 nd.decs.length c26:=by rw [← hwM28];exact boxN_new _ _ _ _ _ _ _ _ _ _ _
      have hM28:Below B wM26 wM28:=Below.mono hN28 (HSRC.out _ (((belowOrd B)).trans (((belowOrd B)).trans (((belowOrd B)).trans (((belowOrd B)).trans (((belowOrd B)).trans (((belowOrd B)).trans (((belowOrd B)).refl W0) hM6) hM12) hM20) hM13) hM19) hM26)).2;clear hwM28;refine wpR_one (i:=29) (by kernel_rfl) ?_
      refine wpR_op (i:=29) rfl (by rfl) (fun K hK => ?_)
      refine wp_append_node _ _ rfl B W0.heap.size v (ns.take k) nd _ A12 A19 A26 c12 c19 c26 rfl (((((((hO.grow hN6).grow hN12).grow hN20).grow hN13).grow hN19).grow hN26).grow hN28) rfl hC28 (((((hC12.grow hN20).grow hN13).grow hN19).grow hN26).grow hN28) ((hC19.grow hN26).grow hN28) (hC26.grow hN28) HZ0.out HOL.out (by rw [HTL.out];omega) ?_
      intro v29 wM29 hC29 hM29;refine hK.out _ _ hM29 ?_;clear hK K
      try simp only [Act.put,List.setIfInBounds_toArray,List.set_cons_zero,List.set_cons_succ]
      refine wpR_take (belowOrd B) (i:=30) (v:=?vf27) rfl (by kernel_rfl) (by kernel_rfl) (by kernel_rfl) (fun _ _ _ h => h) (by rfl) ?hf27 ?rf27
      case hf27 => (intro wg hSw;go_simp <;> with_reducible rfl)
      simp only [Act.put,List.setIfInBounds_toArray,List.set_cons_zero,List.set_cons_succ];refine wpR_done (by kernel_rfl) ?_
      have HGW:=Hh (Below.trans HGZ.out (((belowOrd B)).trans (((belowOrd B)).trans (((belowOrd B)).trans (((belowOrd B)).trans (((belowOrd B)).trans (((belowOrd B)).trans (((belowOrd B)).trans (((belowOrd B)).trans (((belowOrd B)).refl W0) hM6) hM12) hM20) hM13) hM19) hM26) hM28) hM29));have HON:=Hh hC29;clear p0 p1 p2 p3;go_wp2;go_roundg (n - (k + 1))
      case rel => exact ⟨k + 1,v29,by omega,rfl,by go_num,rfl,Hh (by rw [HTK.out];exact HON.out),HGW⟩
      case measure => omega
    ·refine wpR_op (i:=13) rfl (by rfl) (fun K hK => ?_)
     go_simp;refine hK.out _ _ (Below.mono (grow_new _ _) (HSRC.out _ (((belowOrd B)).trans (((belowOrd B)).refl W0) hM6)).2) ?_;clear hK K
     try simp only [Act.put,List.setIfInBounds_toArray,List.set_cons_zero,List.set_cons_succ]
     generalize hwM13:World.alloc wM6 (Obj.cells #[] 3) = wM13;have hN13:Grow wM6 wM13:=by rw [← hwM13];exact grow_new _ _
     have hM13:Below B wM6 wM13:=Below.mono hN13 (HSRC.out _ (((belowOrd B)).trans (((belowOrd B)).refl W0) hM6)).2;clear hwM13;refine wpR_two (i:=12) (j:=20) (by kernel_rfl) ?_ ?_
     ·refine wpR_op (i:=12) rfl (by rfl) (fun K hK => ?_)
      refine wp_cat_nums _ _ rfl W0.heap.size _ nd.shp.length c1 A1 nd.shp rfl rfl rfl (Nat.le_trans HFK.out.2.1 (by decide)) (HSRC.out _ (((belowOrd B)).trans (((belowOrd B)).trans (((belowOrd B)).refl W0) hM6) hM13)).1.1 (Below.size (((belowOrd B)).trans (((belowOrd B)).trans (((belowOrd B)).refl W0) hM6) hM13)) ?_
      intro A12 c12 wM12 hC12 hN12;have hM12:Below B wM13 wM12:=Below.mono hN12 (HSRC.out _ (((belowOrd B)).trans (((belowOrd B)).trans (((belowOrd B)).refl W0) hM6) hM13)).2;refine hK.out _ _ hM12 ?_;clear hK K
      try simp only [Act.put,List.setIfInBounds_toArray,List.set_cons_zero,List.set_cons_succ]
      refine wpR_two (i:=19) (j:=20) (by kernel_rfl) ?_ ?_
      ·refine wpR_op (i:=19) rfl (by rfl) (fun K hK => ?_)
       refine wp_cat_nums _ _ rfl W0.heap.size _ nd.ints.length c2 A2 nd.ints rfl rfl rfl (Nat.le_trans HFK.out.2.2.1 (by decide)) (HSRC.out _ (((belowOrd B)).trans (((belowOrd B)).trans (((belowOrd B)).trans (((belowOrd B)).refl W0) hM6) hM13) hM12)).1.2.1 (Below.size (((belowOrd B)).trans (((belowOrd B)).trans (((belowOrd B)).trans (((belowOrd B)).refl W0) hM6) hM13) hM12)) ?_
       intro A19 c19 wM19 hC19 hN19;have hM19:Below B wM12 wM19:=Below.mono hN19 (HSRC.out _ (((belowOrd B)).trans (((belowOrd B)).trans (((belowOrd B)).trans (((belowOrd B)).refl W0) hM6) hM13) hM12)).2;refine hK.out _ _ hM19 ?_;clear hK K
       try simp only [Act.put,List.setIfInBounds_toArray,List.set_cons_zero,List.set_cons_succ]
       refine wpR_one (i:=20) (by kernel_rfl) ?_
       refine wpR_op (i:=20) rfl (by rfl) (fun K hK => ?_)
       go_simp;refine hK.out _ _ (Below.mono (grow_new _ _) (HSRC.out _ (((belowOrd B)).trans (((belowOrd B)).trans (((belowOrd B)).trans (((belowOrd B)).trans (((belowOrd B)).refl W0) hM6) hM13) hM12) hM19)).2) ?_;clear hK K
       try simp only [Act.put,List.setIfInBounds_toArray,List.set_cons_zero,List.set_cons_succ]
       generalize hwM20:World.alloc wM19 (Obj.cells #[] 41) = wM20;have hN20:Grow wM19 wM20:=by rw [← hwM20];exact grow_new _ _
       have hM20:Below B wM19 wM20:=Below.mono hN20 (HSRC.out _ (((belowOrd B)).trans (((belowOrd B)).trans (((belowOrd B)).trans (((belowOrd B)).trans (((belowOrd B)).refl W0) hM6) hM13) hM12) hM19)).2;clear hwM20;refine wpR_one (i:=26) (by kernel_rfl) ?_
       refine wpR_op (i:=26) rfl (by rfl) (fun K hK => ?_)
       refine wp_cat_decs _ _ rfl W0.heap.size _ nd.decs.length c3 A3 nd.decs rfl rfl rfl (Nat.le_trans HFK.out.2.2.2.1 (by decide)) (HSRC.out _ (((belowOrd B)).trans (((belowOrd B)).trans (((belowOrd B)).trans (((belowOrd B)).trans (((belowOrd B)).trans (((belowOrd B)).refl W0) hM6) hM13) hM12) hM19) hM20)).1.2.2 (Below.size (((belowOrd B)).trans (((belowOrd B)).trans (((belowOrd B)).trans (((belowOrd B)).trans (((belowOrd B)).trans (((belowOrd B)).refl W0) hM6) hM13) hM12) hM19) hM20)) ?_
       intro A26 c26 wM26 hC26 hN26;have hM26:Below B wM20 wM26:=Below.mono hN26 (HSRC.out _ (((belowOrd B)).trans (((belowOrd B)).trans (((belowOrd B)).trans (((belowOrd B)).trans (((belowOrd B)).trans (((belowOrd B)).refl W0) hM6) hM13) hM12) hM19) hM20)).2;refine hK.out _ _ hM26 ?_;clear hK K
       try simp only [Act.put,List.setIfInBounds_toArray,List.set_cons_zero,List.set_cons_succ]
       refine wpR_take (belowOrd B) (i:=27) (v:=?vf28) rfl (by kernel_rfl) (by kernel_rfl) (by kernel_rfl) (fun _ _ _ h => h) (by rfl) ?hf28 ?rf28
       case hf28 => (intro wg hSw;go_simp <;> with_reducible rfl)
       simp only [Act.put,List.setIfInBounds_toArray,List.set_cons_zero,List.set_cons_succ];refine wpR_one (i:=28) (by kernel_rfl) ?_
       refine wpR_op (i:=28) rfl (by rfl) (fun K hK => ?_)
       go_simp;refine hK.out _ _ (Below.mono (grow_new _ _) (HSRC.out _ (((belowOrd B)).trans (((belowOrd B)).trans (((belowOrd B)).trans (((belowOrd B)).trans (((belowOrd B)).trans (((belowOrd B)).trans (((belowOrd B)).refl W0) hM6) hM13) hM12) hM19) hM20) hM26)).2) ?_;clear hK K
       try simp only [Act.put,List.setIfInBounds_toArray,List.set_cons_zero,List.set_cons_succ]
       generalize hwM28:World.alloc wM26 (Obj.cells #[.int .i64 nd.kind,.slice A12 nd.shp.length c12,.slice A19 nd.ints.length c19,.slice A26 nd.decs.length c26] 34) = wM28;have hN28:Grow wM26 wM28:=by rw [← hwM28];exact grow_new _ _
       have hC28:BoxN wM28 (wM26).heap.size nd.kind A12 nd.shp.length c12 A19 nd.ints.length c19 A26 nd.decs.length c26:=by rw [← hwM28];exact boxN_new _ _ _ _ _ _ _ _ _ _ _
       have hM28:Below B wM26 wM28:=Below.mono hN28 (HSRC.out _ (((belowOrd B)).trans (((belowOrd B)).trans (((belowOrd B)).trans (((belowOrd B)).trans (((belowOrd B)).trans (((belowOrd B)).trans (((belowOrd B)).refl W0) hM6) hM13) hM12) hM19) hM20) hM26)).2;clear hwM28;refine wpR_one (i:=29) (by kernel_rfl) ?_
       refine wpR_op (i:=29) rfl (by rfl) (fun K hK => ?_)
       refine wp_append_node _ _ rfl B W0.heap.size v (ns.take k) nd _ A12 A19 A26 c12 c19 c26 rfl (((((((hO.grow hN6).grow hN13).grow hN12).grow hN19).grow hN20).grow hN26).grow hN28) rfl hC28 ((((hC12.grow hN19).grow hN20).grow hN26).grow hN28) (((hC19.grow hN20).grow hN26).grow hN28) (hC26.grow hN28) HZ0.out HOL.out (by rw [HTL.out];omega) ?_
       intro v29 wM29 hC29 hM29;refine hK.out _ _ hM29 ?_;clear hK K
       try simp only [Act.put,List.setIfInBounds_toArray,List.set_cons_zero,List.set_cons_succ]
       refine wpR_take (belowOrd B) (i:=30) (v:=?vf29) rfl (by kernel_rfl) (by kernel_rfl) (by kernel_rfl) (fun _ _ _ h => h) (by rfl) ?hf29 ?rf29
       case hf29 => (intro wg hSw;go_simp <;> with_reducible rfl)
       simp only [Act.put,List.setIfInBounds_toArray,List.set_cons_zero,List.set_cons_succ];refine wpR_done (by kernel_rfl) ?_
       have HGW:=Hh (Below.trans HGZ.out (((belowOrd B)).trans (((belowOrd B)).trans (((belowOrd B)).trans (((belowOrd B)).trans (((belowOrd B)).trans (((belowOrd B)).trans (((belowOrd B)).trans (((belowOrd B)).trans (((belowOrd B)).refl W0) hM6) hM13) hM12) hM19) hM20) hM26) hM28) hM29));have HON:=Hh hC29;clear p0 p1 p2 p3;go_wp2;go_roundg (n - (k + 1))
       case rel => exact ⟨k + 1,v29,by omega,rfl,by go_num,rfl,Hh (by rw [HTK.out];exact HON.out),HGW⟩
       case measure => omega
      ·refine wpR_op (i:=20) rfl (by rfl) (fun K hK => ?_)
       go_simp;refine hK.out _ _ (Below.mono (grow_new _ _) (HSRC.out _ (((belowOrd B)).trans (((belowOrd B)).trans (((belowOrd B)).trans (((belowOrd B)).refl W0) hM6) hM13) hM12)).2) ?_;clear hK K
       try simp only [Act.put,List.setIfInBounds_toArray,List.set_cons_zero,List.set_cons_succ]
       generalize hwM20:World.alloc wM12 (Obj.cells #[] 41) = wM20;have hN20:Grow wM12 wM20:=by rw [← hwM20];exact grow_new _ _
       have hM20:Below B wM12 wM20:=Below.mono hN20 (HSRC.out _ (((belowOrd B)).trans (((belowOrd B)).trans (((belowOrd B)).trans (((belowOrd B)).refl W0) hM6) hM13) hM12)).2;clear hwM20;refine wpR_one (i:=19) (by kernel_rfl) ?_
       refine wpR_op (i:=19) rfl (by rfl) (fun K hK => ?_)
       refine wp_cat_nums _ _ rfl W0.heap.size _ nd.ints.length c2 A2 nd.ints rfl rfl rfl (Nat.le_trans HFK.out.2.2.1 (by decide)) (HSRC.out _ (((belowOrd B)).trans (((belowOrd B)).trans (((belowOrd B)).trans (((belowOrd B)).trans (((belowOrd B)).refl W0) hM6) hM13) hM12) hM20)).1.2.1 (Below.size (((belowOrd B)).trans (((belowOrd B)).trans (((belowOrd B)).trans (((belowOrd B)).trans (((belowOrd B)).refl W0) hM6) hM13) hM12) hM20)) ?_
       intro A19 c19 wM19 hC19 hN19;have hM19:Below B wM20 wM19:=Below.mono hN19 (HSRC.out _ (((belowOrd B)).trans (((belowOrd B)).trans (((belowOrd B)).trans (((belowOrd B)).trans (((belowOrd B)).refl W0) hM6) hM13) hM12) hM20)).2;refine hK.out _ _ hM19 ?_;clear hK K
       try simp only [Act.put,List.setIfInBounds_toArray,List.set_cons_zero,List.set_cons_succ]
       refine wpR_one (i:=26) (by kernel_rfl) ?_
       refine wpR_op (i:=26) rfl (by rfl) (fun K hK => ?_)
       refine wp_cat_decs _ _ rfl W0.heap.size _ nd.decs.length c3 A3 nd.decs rfl rfl rfl (Nat.le_trans HFK.out.2.2.2.1 (by decide)) (HSRC.out _ (((belowOrd B)).trans (((belowOrd B)).trans (((belowOrd B)).trans (((belowOrd B)).trans (((belowOrd B)).trans (((belowOrd B)).refl W0) hM6) hM13) hM12) hM20) hM19)).1.2.2 (Below.size (((belowOrd B)).trans (((belowOrd B)).trans (((belowOrd B)).trans (((belowOrd B)).trans (((belowOrd B)).trans (((belowOrd B)).refl W0) hM6) hM13) hM12) hM20) hM19)) ?_
       intro A26 c26 wM26 hC26 hN26;have hM26:Below B wM19 wM26:=Below.mono hN26 (HSRC.out _ (((belowOrd B)).trans (((belowOrd B)).trans (((belowOrd B)).trans (((belowOrd B)).trans (((belowOrd B)).trans (((belowOrd B)).refl W0) hM6) hM13) hM12) hM20) hM19)).2;refine hK.out _ _ hM26 ?_;clear hK K
       try simp only [Act.put,List.setIfInBounds_toArray,List.set_cons_zero,List.set_cons_succ]
       refine wpR_take (belowOrd B) (i:=27) (v:=?vf30) rfl (by kernel_rfl) (by kernel_rfl) (by kernel_rfl) (fun _ _ _ h => h) (by rfl) ?hf30 ?rf30
       case hf30 => (intro wg hSw;go_simp <;> with_reducible rfl)
       simp only [Act.put,List.setIfInBounds_toArray,List.set_cons_zero,List.set_cons_succ];refine wpR_one (i:=28) (by kernel_rfl) ?_
       refine wpR_op (i:=28) rfl (by rfl) (fun K hK => ?_)
       go_simp;refine hK.out _ _ (Below.mono (grow_new _ _) (HSRC.out _ (((belowOrd B)).trans (((belowOrd B)).trans (((belowOrd B)).trans (((belowOrd B)).trans (((belowOrd B)).trans (((belowOrd B)).trans (((belowOrd B)).refl W0) hM6) hM13) hM12) hM20) hM19) hM26)).2) ?_;clear hK K
       try simp only [Act.put,List.setIfInBounds_toArray,List.set_cons_zero,List.set_cons_succ]
       generalize hwM28:World.alloc wM26 (Obj.cells #[.int .i64 nd.kind,.slice A12 nd.shp.length c12,.slice A19 nd.ints.length c19,.slice A26 nd.decs.length c26] 34) = wM28;have hN28:Grow wM26 wM28:=by rw [← hwM28];exact grow_new _ _
       have hC28:BoxN wM28 (wM26).heap.size nd.kind A12 nd.shp.length c12 A19 nd.ints.length c19 A26 nd.decs.length c26:=by rw [← hwM28];exact boxN_new _ _ _ _ _ _ _ _ _ _ _
       have hM28:Below B wM26 wM28:=Below.mono hN28 (HSRC.out _ (((belowOrd B)).trans (((belowOrd B)).trans (((belowOrd B)).trans (((belowOrd B)).trans (((belowOrd B)).trans (((belowOrd B)).trans (((belowOrd B)).refl W0) hM6) hM13) hM12) hM20) hM19) hM26)).2;clear hwM28;refine wpR_one (i:=29) (by kernel_rfl) ?_
       refine wpR_op (i:=29) rfl (by rfl) (fun K hK => ?_)
       refine wp_append_node _ _ rfl B W0.heap.size v (ns.take k) nd _ A12 A19 A26 c12 c19 c26 rfl (((((((hO.grow hN6).grow hN13).grow hN12).grow hN20).grow hN19).grow hN26).grow hN28) rfl hC28 ((((hC12.grow hN20).grow hN19).grow hN26).grow hN28) ((hC19.grow hN26).grow hN28) (hC26.grow hN28) HZ0.out HOL.out (by rw [HTL.out];omega) ?_
       intro v29 wM29 hC29 hM29;refine hK.out _ _ hM29 ?_;clear hK K
       try simp only [Act.put,List.setIfInBounds_toArray,List.set_cons_zero,List.set_cons_succ]
       refine wpR_take (belowOrd B) (i:=30) (v:=?vf31) rfl (by kernel_rfl) (by kernel_rfl) (by kernel_rfl) (fun _ _ _ h => h) (by rfl) ?hf31 ?rf31
       case hf31 => (intro wg hSw;go_simp <;> with_reducible rfl)
       simp only [Act.put,List.setIfInBounds_toArray,List.set_cons_zero,List.set_cons_succ];refine wpR_done (by kernel_rfl) ?_
       have HGW:=Hh (Below.trans HGZ.out (((belowOrd B)).trans (((belowOrd B)).trans (((belowOrd B)).trans (((belowOrd B)).trans (((belowOrd B)).trans (((belowOrd B)).trans (((belowOrd B)).trans (((belowOrd B)).trans (((belowOrd B)).refl W0) hM6) hM13) hM12) hM20) hM19) hM26) hM28) hM29));have HON:=Hh hC29;clear p0 p1 p2 p3;go_wp2;go_roundg (n - (k + 1))
       case rel => exact ⟨k + 1,v29,by omega,rfl,by go_num,rfl,Hh (by rw [HTK.out];exact HON.out),HGW⟩
       case measure => omega
     ·refine wpR_op (i:=20) rfl (by rfl) (fun K hK => ?_)
      go_simp;refine hK.out _ _ (Below.mono (grow_new _ _) (HSRC.out _ (((belowOrd B)).trans (((belowOrd B)).trans (((belowOrd B)).refl W0) hM6) hM13)).2) ?_;clear hK K
      try simp only [Act.put,List.setIfInBounds_toArray,List.set_cons_zero,List.set_cons_succ]
      generalize hwM20:World.alloc wM13 (Obj.cells #[] 41) = wM20;have hN20:Grow wM13 wM20:=by rw [← hwM20];exact grow_new _ _
      have hM20:Below B wM13 wM20:=Below.mono hN20 (HSRC.out _ (((belowOrd B)).trans (((belowOrd B)).trans (((belowOrd B)).refl W0) hM6) hM13)).2;clear hwM20;refine wpR_one (i:=12) (by kernel_rfl) ?_
      refine wpR_op (i:=12) rfl (by rfl) (fun K hK => ?_)
      refine wp_cat_nums _ _ rfl W0.heap.size _ nd.shp.length c1 A1 nd.shp rfl rfl rfl (Nat.le_trans HFK.out.2.1 (by decide)) (HSRC.out _ (((belowOrd B)).trans (((belowOrd B)).trans (((belowOrd B)).trans (((belowOrd B)).refl W0) hM6) hM13) hM20)).1.1 (Below.size (((belowOrd B)).trans (((belowOrd B)).trans (((belowOrd B)).trans (((belowOrd B)).refl W0) hM6) hM13) hM20)) ?_
      intro A12 c12 wM12 hC12 hN12;have hM12:Below B wM20 wM12:=Below.mono hN12 (HSRC.out _ (((belowOrd B)).trans (((belowOrd B)).trans (((belowOrd B)).trans (((belowOrd B)).refl W0) hM6) hM13) hM20)).2;refine hK.out _ _ hM12 ?_;clear hK K
      try simp only [Act.put,List.setIfInBounds_toArray,List.set_cons_zero,List.set_cons_succ]
      refine wpR_one (i:=19) (by kernel_rfl) ?_
      refine wpR_op (i:=19) rfl (by rfl) (fun K hK => ?_)
      refine wp_cat_nums _ _ rfl W0.heap.size _ nd.ints.length c2 A2 nd.ints rfl rfl rfl (Nat.le_trans HFK.out.2.2.1 (by decide)) (HSRC.out _ (((belowOrd B)).trans (((belowOrd B)).trans (((belowOrd B)).trans (((belowOrd B)).trans (((belowOrd B)).refl W0) hM6) hM13) hM20) hM12)).1.2.1 (Below.size (((belowOrd B)).trans (((belowOrd B)).trans (((belowOrd B)).trans (((belowOrd B)).trans (((belowOrd B)).refl W0) hM6) hM13) hM20) hM12)) ?_
      intro A19 c19 wM19 hC19 hN19;have hM19:Below B wM12 wM19:=Below.mono hN19 (HSRC.out _ (((belowOrd B)).trans (((belowOrd B)).trans (((belowOrd B)).trans (((belowOrd B)).trans (((belowOrd B)).refl W0) hM6) hM13) hM20) hM12)).2;refine hK.out _ _ hM19 ?_;clear hK K
      try simp only [Act.put,List.setIfInBounds_toArray,List.set_cons_zero,List.set_cons_succ]
      refine wpR_one (i:=26) (by kernel_rfl) ?_
      refine wpR_op (i:=26) rfl (by rfl) (fun K hK => ?_)
      refine wp_cat_decs _ _ rfl W0.heap.size _ nd.decs.length c3 A3 nd.decs rfl rfl rfl (Nat.le_trans HFK.out.2.2.2.1 (by decide)) (HSRC.out _ (((belowOrd B)).trans (((belowOrd B)).trans (((belowOrd B)).trans (((belowOrd B)).trans (((belowOrd B)).trans (((belowOrd B)).refl W0) hM6) hM13) hM20) hM12) hM19)).1.2.2 (Below.size (((belowOrd B)).trans (((belowOrd B)).trans (((belowOrd B)).trans (((belowOrd B)).trans (((belowOrd B)).trans (((belowOrd B)).refl W0) hM6) hM13) hM20) hM12) hM19)) ?_
      intro A26 c26 wM26 hC26 hN26;have hM26:Below B wM19 wM26:=Below.mono hN26 (HSRC.out _ (((belowOrd B)).trans (((belowOrd B)).trans (((belowOrd B)).trans (((belowOrd B)).trans (((belowOrd B)).trans (((belowOrd B)).refl W0) hM6) hM13) hM20) hM12) hM19)).2;refine hK.out _ _ hM26 ?_;clear hK K
      try simp only [Act.put,List.setIfInBounds_toArray,List.set_cons_zero,List.set_cons_succ]
      refine wpR_take (belowOrd B) (i:=27) (v:=?vf32) rfl (by kernel_rfl) (by kernel_rfl) (by kernel_rfl) (fun _ _ _ h => h) (by rfl) ?hf32 ?rf32
      case hf32 => (intro wg hSw;go_simp <;> with_reducible rfl)
      simp only [Act.put,List.setIfInBounds_toArray,List.set_cons_zero,List.set_cons_succ];refine wpR_one (i:=28) (by kernel_rfl) ?_
      refine wpR_op (i:=28) rfl (by rfl) (fun K hK => ?_)
      go_simp;refine hK.out _ _ (Below.mono (grow_new _ _) (HSRC.out _ (((belowOrd B)).trans (((belowOrd B)).trans (((belowOrd B)).trans (((belowOrd B)).trans (((belowOrd B)).trans (((belowOrd B)).trans (((belowOrd B)).refl W0) hM6) hM13) hM20) hM12) hM19) hM26)).2) ?_;clear hK K
      try simp only [Act.put,List.setIfInBounds_toArray,List.set_cons_zero,List.set_cons_succ]
      generalize hwM28:World.alloc wM26 (Obj.cells #[.int .i64 nd.kind,.slice A12 nd.shp.length c12,.slice A19 nd.ints.length c19,.slice A26 nd.decs.length c26] 34) = wM28;have hN28:Grow wM26 wM28:=by rw [← hwM28];exact grow_new _ _
      have hC28:BoxN wM28 (wM26).heap.size nd.kind A12 nd.shp.length c12 A19 nd.ints.length c19 A26 nd.decs.length c26:=by rw [← hwM28];exact boxN_new _ _ _ _ _ _ _ _ _ _ _
      have hM28:Below B wM26 wM28:=Below.mono hN28 (HSRC.out _ (((belowOrd B)).trans (((belowOrd B)).trans (((belowOrd B)).trans (((belowOrd B)).trans (((belowOrd B)).trans (((belowOrd B)).trans (((belowOrd B)).refl W0) hM6) hM13) hM20) hM12) hM19) hM26)).2;clear hwM28;refine wpR_one (i:=29) (by kernel_rfl) ?_
      refine wpR_op (i:=29) rfl (by rfl) (fun K hK => ?_)
      refine wp_append_node _ _ rfl B W0.heap.size v (ns.take k) nd _ A12 A19 A26 c12 c19 c26 rfl (((((((hO.grow hN6).grow hN13).grow hN20).grow hN12).grow hN19).grow hN26).grow hN28) rfl hC28 (((hC12.grow hN19).grow hN26).grow hN28) ((hC19.grow hN26).grow hN28) (hC26.grow hN28) HZ0.out HOL.out (by rw [HTL.out];omega) ?_
      intro v29 wM29 hC29 hM29;refine hK.out _ _ hM29 ?_;clear hK K
      try simp only [Act.put,List.setIfInBounds_toArray,List.set_cons_zero,List.set_cons_succ]
      refine wpR_take (belowOrd B) (i:=30) (v:=?vf33) rfl (by kernel_rfl) (by kernel_rfl) (by kernel_rfl) (fun _ _ _ h => h) (by rfl) ?hf33 ?rf33
      case hf33 => (intro wg hSw;go_simp <;> with_reducible rfl)
      simp only [Act.put,List.setIfInBounds_toArray,List.set_cons_zero,List.set_cons_succ];refine wpR_done (by kernel_rfl) ?_
      have HGW:=Hh (Below.trans HGZ.out (((belowOrd B)).trans (((belowOrd B)).trans (((belowOrd B)).trans (((belowOrd B)).trans (((belowOrd B)).trans (((belowOrd B)).trans (((belowOrd B)).trans (((belowOrd B)).trans (((belowOrd B)).refl W0) hM6) hM13) hM20) hM12) hM19) hM26) hM28) hM29));have HON:=Hh hC29;clear p0 p1 p2 p3;go_wp2;go_roundg (n - (k + 1))
      case rel => exact ⟨k + 1,v29,by omega,rfl,by go_num,rfl,Hh (by rw [HTK.out];exact HON.out),HGW⟩
      case measure => omega
    ·refine wpR_op (i:=20) rfl (by rfl) (fun K hK => ?_)
     go_simp;refine hK.out _ _ (Below.mono (grow_new _ _) (HSRC.out _ (((belowOrd B)).trans (((belowOrd B)).refl W0) hM6)).2) ?_;clear hK K
     try simp only [Act.put,List.setIfInBounds_toArray,List.set_cons_zero,List.set_cons_succ]
     generalize hwM20:World.alloc wM6 (Obj.cells #[] 41) = wM20;have hN20:Grow wM6 wM20:=by rw [← hwM20];exact grow_new _ _
     have hM20:Below B wM6 wM20:=Below.mono hN20 (HSRC.out _ (((belowOrd B)).trans (((belowOrd B)).refl W0) hM6)).2;clear hwM20;refine wpR_two (i:=12) (j:=13) (by kernel_rfl) ?_ ?_
     ·refine wpR_op (i:=12) rfl (by rfl) (fun K hK => ?_)
      refine wp_cat_nums _ _ rfl W0.heap.size _ nd.shp.length c1 A1 nd.shp rfl rfl rfl (Nat.le_trans HFK.out.2.1 (by decide)) (HSRC.out _ (((belowOrd B)).trans (((belowOrd B)).trans (((belowOrd B)).refl W0) hM6) hM20)).1.1 (Below.size (((belowOrd B)).trans (((belowOrd B)).trans (((belowOrd B)).refl W0) hM6) hM20)) ?_
      intro A12 c12 wM12 hC12 hN12;have hM12:Below B wM20 wM12:=Below.mono hN12 (HSRC.out _ (((belowOrd B)).trans (((belowOrd B)).trans (((belowOrd B)).refl W0) hM6) hM20)).2;refine hK.out _ _ hM12 ?_;clear hK K
      try simp only [Act.put,List.setIfInBounds_toArray,List.set_cons_zero,List.set_cons_succ]
      refine wpR_one (i:=13) (by kernel_rfl) ?_
      refine wpR_op (i:=13) rfl (by rfl) (fun K hK => ?_)
      go_simp;refine hK.out _ _ (Below.mono (grow_new _ _) (HSRC.out _ (((belowOrd B)).trans (((belowOrd B)).trans (((belowOrd B)).trans (((belowOrd B)).refl W0) hM6) hM20) hM12)).2) ?_;clear hK K
      try simp only [Act.put,List.setIfInBounds_toArray,List.set_cons_zero,List.set_cons_succ]
      generalize hwM13:World.alloc wM12 (Obj.cells #[] 3) = wM13;have hN13:Grow wM12 wM13:=by rw [← hwM13];exact grow_new _ _
      have hM13:Below B wM12 wM13:=Below.mono hN13 (HSRC.out _ (((belowOrd B)).trans (((belowOrd B)).trans (((belowOrd B)).trans (((belowOrd B)).refl W0) hM6) hM20) hM12)).2;clear hwM13;refine wpR_one (i:=19) (by kernel_rfl) ?_
      refine wpR_op (i:=19) rfl (by rfl) (fun K hK => ?_)
      refine wp_cat_nums _ _ rfl W0.heap.size _ nd.ints.length c2 A2 nd.ints rfl rfl rfl (Nat.le_trans HFK.out.2.2.1 (by decide)) (HSRC.out _ (((belowOrd B)).trans (((belowOrd B)).trans (((belowOrd B)).trans (((belowOrd B)).trans (((belowOrd B)).refl W0) hM6) hM20) hM12) hM13)).1.2.1 (Below.size (((belowOrd B)).trans (((belowOrd B)).trans (((belowOrd B)).trans (((belowOrd B)).trans (((belowOrd B)).refl W0) hM6) hM20) hM12) hM13)) ?_
      intro A19 c19 wM19 hC19 hN19;have hM19:Below B wM13 wM19:=Below.mono hN19 (HSRC.out _ (((belowOrd B)).trans (((belowOrd B)).trans (((belowOrd B)).trans (((belowOrd B)).trans (((belowOrd B)).refl W0) hM6) hM20) hM12) hM13)).2;refine hK.out _ _ hM19 ?_;clear hK K
      try simp only [Act.put,List.setIfInBounds_toArray,List.set_cons_zero,List.set_cons_succ]
      refine wpR_one (i:=26) (by kernel_rfl) ?_
      refine wpR_op (i:=26) rfl (by rfl) (fun K hK => ?_)
      refine wp_cat_decs _ _ rfl W0.heap.size _ nd.decs.length c3 A3 nd.decs rfl rfl rfl (Nat.le_trans HFK.out.2.2.2.1 (by decide)) (HSRC.out _ (((belowOrd B)).trans (((belowOrd B)).trans (((belowOrd B)).trans (((belowOrd B)).trans (((belowOrd B)).trans (((belowOrd B)).refl W0) hM6) hM20) hM12) hM13) hM19)).1.2.2 (Below.size (((belowOrd B)).trans (((belowOrd B)).trans (((belowOrd B)).trans (((belowOrd B)).trans (((belowOrd B)).trans (((belowOrd B)).refl W0) hM6) hM20) hM12) hM13) hM19)) ?_
      intro A26 c26 wM26 hC26 hN26;have hM26:Below B wM19 wM26:=Below.mono hN26 (HSRC.out _ (((belowOrd B)).trans (((belowOrd B)).trans (((belowOrd B)).trans (((belowOrd B)).trans (((belowOrd B)).trans (((belowOrd B)).refl W0) hM6) hM20) hM12) hM13) hM19)).2;refine hK.out _ _ hM26 ?_;clear hK K
      try simp only [Act.put,List.setIfInBounds_toArray,List.set_cons_zero,List.set_cons_succ]
      refine wpR_take (belowOrd B) (i:=27) (v:=?vf34) rfl (by kernel_rfl) (by kernel_rfl) (by kernel_rfl) (fun _ _ _ h => h) (by rfl) ?hf34 ?rf34
      case hf34 => (intro wg hSw;go_simp <;> with_reducible rfl)
      simp only [Act.put,List.setIfInBounds_toArray,List.set_cons_zero,List.set_cons_succ];refine wpR_one (i:=28) (by kernel_rfl) ?_
      refine wpR_op (i:=28) rfl (by rfl) (fun K hK => ?_)
      go_simp;refine hK.out _ _ (Below.mono (grow_new _ _) (HSRC.out _ (((belowOrd B)).trans (((belowOrd B)).trans (((belowOrd B)).trans (((belowOrd B)).trans (((belowOrd B)).trans (((belowOrd B)).trans (((belowOrd B)).refl W0) hM6) hM20) hM12) hM13) hM19) hM26)).2) ?_;clear hK K
      try simp only [Act.put,List.setIfInBounds_toArray,List.set_cons_zero,List.set_cons_succ]
      generalize hwM28:World.alloc wM26 (Obj.cells #[.int .i64 nd.kind,.slice A12 nd.shp.length c12,.slice A19 nd.ints.length c19,.slice A26 nd.decs.length c26] 34) = wM28;have hN28:Grow wM26 wM28:=by rw [← hwM28];exact grow_new _ _
      have hC28:BoxN wM28 (wM26).heap.size nd.kind A12 nd.shp.length c12 A19 nd.ints.length c19 A26 nd.decs.length c26:=by rw [← hwM28];exact boxN_new _ _ _ _ _ _ _ _ _ _ _
      have hM28:Below B wM26 wM28:=Below.mono hN28 (HSRC.out _ (((belowOrd B)).trans (((belowOrd B)).trans (((belowOrd B)).trans (((belowOrd B)).trans (((belowOrd B)).trans (((belowOrd B)).trans (((belowOrd B)).refl W0) hM6) hM20) hM12) hM13) hM19) hM26)).2;clear hwM28;refine wpR_one (i:=29) (by kernel_rfl) ?_
      refine wpR_op (i:=29) rfl (by rfl) (fun K hK => ?_)
      refine wp_append_node _ _ rfl B W0.heap.size v (ns.take k) nd _ A12 A19 A26 c12 c19 c26 rfl (((((((hO.grow hN6).grow hN20).grow hN12).grow hN13).grow hN19).grow hN26).grow hN28) rfl hC28 ((((hC12.grow hN13).grow hN19).grow hN26).grow hN28) ((hC19.grow hN26).grow hN28) (hC26.grow hN28) HZ0.out HOL.out (by rw [HTL.out];omega) ?_
      intro v29 wM29 hC29 hM29;refine hK.out _ _ hM29 ?_;clear hK K
      try simp only [Act.put,List.setIfInBounds_toArray,List.set_cons_zero,List.set_cons_succ]
      refine wpR_take (belowOrd B) (i:=30) (v:=?vf35) rfl (by kernel_rfl) (by kernel_rfl) (by kernel_rfl) (fun _ _ _ h => h) (by rfl) ?hf35 ?rf35
      case hf35 => (intro wg hSw;go_simp <;> with_reducible rfl)
      simp only [Act.put,List.setIfInBounds_toArray,List.set_cons_zero,List.set_cons_succ];refine wpR_done (by kernel_rfl) ?_
      have HGW:=Hh (Below.trans HGZ.out (((belowOrd B)).trans (((belowOrd B)).trans (((belowOrd B)).trans (((belowOrd B)).trans (((belowOrd B)).trans (((belowOrd B)).trans (((belowOrd B)).trans (((belowOrd B)).trans (((belowOrd B)).refl W0) hM6) hM20) hM12) hM13) hM19) hM26) hM28) hM29));have HON:=Hh hC29;clear p0 p1 p2 p3;go_wp2;go_roundg (n - (k + 1))
      case rel => exact ⟨k + 1,v29,by omega,rfl,by go_num,rfl,Hh (by rw [HTK.out];exact HON.out),HGW⟩
      case measure => omega
     ·refine wpR_op (i:=13) rfl (by rfl) (fun K hK => ?_)
      go_simp;refine hK.out _ _ (Below.mono (grow_new _ _) (HSRC.out _ (((belowOrd B)).trans (((belowOrd B)).trans (((belowOrd B)).refl W0) hM6) hM20)).2) ?_;clear hK K
      try simp only [Act.put,List.setIfInBounds_toArray,List.set_cons_zero,List.set_cons_succ]
      generalize hwM13:World.alloc wM20 (Obj.cells #[] 3) = wM13;have hN13:Grow wM20 wM13:=by rw [← hwM13];exact grow_new _ _
      have hM13:Below B wM20 wM13:=Below.mono hN13 (HSRC.out _ (((belowOrd B)).trans (((belowOrd B)).trans (((belowOrd B)).refl W0) hM6) hM20)).2;clear hwM13;refine wpR_one (i:=12) (by kernel_rfl) ?_
      refine wpR_op (i:=12) rfl (by rfl) (fun K hK => ?_)
      refine wp_cat_nums _ _ rfl W0.heap.size _ nd.shp.length c1 A1 nd.shp rfl rfl rfl (Nat.le_trans HFK.out.2.1 (by decide)) (HSRC.out _ (((belowOrd B)).trans (((belowOrd B)).trans (((belowOrd B)).trans (((belowOrd B)).refl W0) hM6) hM20) hM13)).1.1 (Below.size (((belowOrd B)).trans (((belowOrd B)).trans (((belowOrd B)).trans (((belowOrd B)).refl W0) hM6) hM20) hM13)) ?_
      intro A12 c12 wM12 hC12 hN12;have hM12:Below B wM13 wM12:=Below.mono hN12 (HSRC.out _ (((belowOrd B)).trans (((belowOrd B)).trans (((belowOrd B)).trans (((belowOrd B)).refl W0) hM6) hM20) hM13)).2;refine hK.out _ _ hM12 ?_;clear hK K
      try simp only [Act.put,List.setIfInBounds_toArray,List.set_cons_zero,List.set_cons_succ]
      refine wpR_one (i:=19) (by kernel_rfl) ?_
      refine wpR_op (i:=19) rfl (by rfl) (fun K hK => ?_)
      refine wp_cat_nums _ _ rfl W0.heap.size _ nd.ints.length c2 A2 nd.ints rfl rfl rfl (Nat.le_trans HFK.out.2.2.1 (by decide)) (HSRC.out _ (((belowOrd B)).trans (((belowOrd B)).trans (((belowOrd B)).trans (((belowOrd B)).trans (((belowOrd B)).refl W0) hM6) hM20) hM13) hM12)).1.2.1 (Below.size (((belowOrd B)).trans (((belowOrd B)).trans (((belowOrd B)).trans (((belowOrd B)).trans (((belowOrd B)).refl W0) hM6) hM20) hM13) hM12)) ?_
      intro A19 c19 wM19 hC19 hN19;have hM19:Below B wM12 wM19:=Below.mono hN19 (HSRC.out _ (((belowOrd B)).trans (((belowOrd B)).trans (((belowOrd B)).trans (((belowOrd B)).trans (((belowOrd B)).refl W0) hM6) hM20) hM13) hM12)).2;refine hK.out _ _ hM19 ?_;clear hK K
      try simp only [Act.put,List.setIfInBounds_toArray,List.set_cons_zero,List.set_cons_succ]
      refine wpR_one (i:=26) (by kernel_rfl) ?_
      refine wpR_op (i:=26) rfl (by rfl) (fun K hK => ?_)
      refine wp_cat_decs _ _ rfl W0.heap.size _ nd.decs.length c3 A3 nd.decs rfl rfl rfl (Nat.le_trans HFK.out.2.2.2.1 (by decide)) (HSRC.out _ (((belowOrd B)).trans (((belowOrd B)).trans (((belowOrd B)).trans (((belowOrd B)).trans (((belowOrd B)).trans (((belowOrd B)).refl W0) hM6) hM20) hM13) hM12) hM19)).1.2.2 (Below.size (((belowOrd B)).trans (((belowOrd B)).trans (((belowOrd B)).trans (((belowOrd B)).trans (((belowOrd B)).trans (((belowOrd B)).refl W0) hM6) hM20) hM13) hM12) hM19)) ?_
      intro A26 c26 wM26 hC26 hN26;have hM26:Below B wM19 wM26:=Below.mono hN26 (HSRC.out _ (((belowOrd B)).trans (((belowOrd B)).trans (((belowOrd B)).trans (((belowOrd B)).trans (((belowOrd B)).trans (((belowOrd B)).refl W0) hM6) hM20) hM13) hM12) hM19)).2;refine hK.out _ _ hM26 ?_;clear hK K
      try simp only [Act.put,List.setIfInBounds_toArray,List.set_cons_zero,List.set_cons_succ]
      refine wpR_take (belowOrd B) (i:=27) (v:=?vf36) rfl (by kernel_rfl) (by kernel_rfl) (by kernel_rfl) (fun _ _ _ h => h) (by rfl) ?hf36 ?rf36
      case hf36 => (intro wg hSw;go_simp <;> with_reducible rfl)
      simp only [Act.put,List.setIfInBounds_toArray,List.set_cons_zero,List.set_cons_succ];refine wpR_one (i:=28) (by kernel_rfl) ?_
      refine wpR_op (i:=28) rfl (by rfl) (fun K hK => ?_)
      go_simp;refine hK.out _ _ (Below.mono (grow_new _ _) (HSRC.out _ (((belowOrd B)).trans (((belowOrd B)).trans (((belowOrd B)).trans (((belowOrd B)).trans (((belowOrd B)).trans (((belowOrd B)).trans (((belowOrd B)).refl W0) hM6) hM20) hM13) hM12) hM19) hM26)).2) ?_;clear hK K
      try simp only [Act.put,List.setIfInBounds_toArray,List.set_cons_zero,List.set_cons_succ]
      generalize hwM28:World.alloc wM26 (Obj.cells #[.int .i64 nd.kind,.slice A12 nd.shp.length c12,.slice A19 nd.ints.length c19,.slice A26 nd.decs.length c26] 34) = wM28;have hN28:Grow wM26 wM28:=by rw [← hwM28];exact grow_new _ _
      have hC28:BoxN wM28 (wM26).heap.size nd.kind A12 nd.shp.length c12 A19 nd.ints.length c19 A26 nd.decs.length c26:=by rw [← hwM28];exact boxN_new _ _ _ _ _ _ _ _ _ _ _
      have hM28:Below B wM26 wM28:=Below.mono hN28 (HSRC.out _ (((belowOrd B)).trans (((belowOrd B)).trans (((belowOrd B)).trans (((belowOrd B)).trans (((belowOrd B)).trans (((belowOrd B)).trans (((belowOrd B)).refl W0) hM6) hM20) hM13) hM12) hM19) hM26)).2;clear hwM28;refine wpR_one (i:=29) (by kernel_rfl) ?_
      refine wpR_op (i:=29) rfl (by rfl) (fun K hK => ?_)
      refine wp_append_node _ _ rfl B W0.heap.size v (ns.take k) nd _ A12 A19 A26 c12 c19 c26 rfl (((((((hO.grow hN6).grow hN20).grow hN13).grow hN12).grow hN19).grow hN26).grow hN28) rfl hC28 (((hC12.grow hN19).grow hN26).grow hN28) ((hC19.grow hN26).grow hN28) (hC26.grow hN28) HZ0.out HOL.out (by rw [HTL.out];omega) ?_
      intro v29 wM29 hC29 hM29;refine hK.out _ _ hM29 ?_;clear hK K
      try simp only [Act.put,List.setIfInBounds_toArray,List.set_cons_zero,List.set_cons_succ]
      refine wpR_take (belowOrd B) (i:=30) (v:=?vf37) rfl (by kernel_rfl) (by kernel_rfl) (by kernel_rfl) (fun _ _ _ h => h) (by rfl) ?hf37 ?rf37
      case hf37 => (intro wg hSw;go_simp <;> with_reducible rfl)
      simp only [Act.put,List.setIfInBounds_toArray,List.set_cons_zero,List.set_cons_succ];refine wpR_done (by kernel_rfl) ?_
      have HGW:=Hh (Below.trans HGZ.out (((belowOrd B)).trans (((belowOrd B)).trans (((belowOrd B)).trans (((belowOrd B)).trans (((belowOrd B)).trans (((belowOrd B)).trans (((belowOrd B)).trans (((belowOrd B)).trans (((belowOrd B)).refl W0) hM6) hM20) hM13) hM12) hM19) hM26) hM28) hM29));have HON:=Hh hC29;clear p0 p1 p2 p3;go_wp2;go_roundg (n - (k + 1))
      case rel => exact ⟨k + 1,v29,by omega,rfl,by go_num,rfl,Hh (by rw [HTK.out];exact HON.out),HGW⟩
      case measure => omega
   ·refine wpR_op (i:=13) rfl (by rfl) (fun K hK => ?_)
    go_simp;refine hK.out _ _ (Below.mono (grow_new _ _) (HSRC.out _ (((belowOrd B)).refl W0)).2) ?_;clear hK K
    try simp only [Act.put,List.setIfInBounds_toArray,List.set_cons_zero,List.set_cons_succ]
    generalize hwM13:World.alloc W0 (Obj.cells #[] 3) = wM13;have hN13:Grow W0 wM13:=by rw [← hwM13];exact grow_new _ _
    have hM13:Below B W0 wM13:=Below.mono hN13 (HSRC.out _ (((belowOrd B)).refl W0)).2;clear hwM13;refine wpR_two (i:=6) (j:=20) (by kernel_rfl) ?_ ?_
    ·refine wpR_op (i:=6) rfl (by rfl) (fun K hK => ?_)
     go_simp;refine hK.out _ _ (Below.mono (grow_new _ _) (HSRC.out _ (((belowOrd B)).trans (((belowOrd B)).refl W0) hM13)).2) ?_;clear hK K
     try simp only [Act.put,List.setIfInBounds_toArray,List.set_cons_zero,List.set_cons_succ]
     generalize hwM6:World.alloc wM13 (Obj.cells #[] 3) = wM6;have hN6:Grow wM13 wM6:=by rw [← hwM6];exact grow_new _ _
     have hM6:Below B wM13 wM6:=Below.mono hN6 (HSRC.out _ (((belowOrd B)).trans (((belowOrd B)).refl W0) hM13)).2;clear hwM6;refine wpR_two (i:=12) (j:=20) (by kernel_rfl) ?_ ?_
     ·refine wpR_op (i:=12) rfl (by rfl) (fun K hK => ?_)
      refine wp_cat_nums _ _ rfl W0.heap.size _ nd.shp.length c1 A1 nd.shp rfl rfl rfl (Nat.le_trans HFK.out.2.1 (by decide)) (HSRC.out _ (((belowOrd B)).trans (((belowOrd B)).trans (((belowOrd B)).refl W0) hM13) hM6)).1.1 (Below.size (((belowOrd B)).trans (((belowOrd B)).trans (((belowOrd B)).refl W0) hM13) hM6)) ?_
      intro A12 c12 wM12 hC12 hN12;have hM12:Below B wM6 wM12:=Below.mono hN12 (HSRC.out _ (((belowOrd B)).trans (((belowOrd B)).trans (((belowOrd B)).refl W0) hM13) hM6)).2;refine hK.out _ _ hM12 ?_;clear hK K
      try simp only [Act.put,List.setIfInBounds_toArray,List.set_cons_zero,List.set_cons_succ]
      refine wpR_two (i:=19) (j:=20) (by kernel_rfl) ?_ ?_
      ·refine wpR_op (i:=19) rfl (by rfl) (fun K hK => ?_)
       refine wp_cat_nums _ _ rfl W0.heap.size _ nd.ints.length c2 A2 nd.ints rfl rfl rfl (Nat.le_trans HFK.out.2.2.1 (by decide)) (HSRC.out _ (((belowOrd B)).trans (((belowOrd B)).trans (((belowOrd B)).trans (((belowOrd B)).refl W0) hM13) hM6) hM12)).1.2.1 (Below.size (((belowOrd B)).trans (((belowOrd B)).trans (((belowOrd B)).trans (((belowOrd B)).refl W0) hM13) hM6) hM12)) ?_
       intro A19 c19 wM19 hC19 hN19;have hM19:Below B wM12 wM19:=Below.mono hN19 (HSRC.out _ (((belowOrd B)).trans (((belowOrd B)).trans (((belowOrd B)).trans (((belowOrd B)).refl W0) hM13) hM6) hM12)).2;refine hK.out _ _ hM19 ?_;clear hK K
       try simp only [Act.put,List.setIfInBounds_toArray,List.set_cons_zero,List.set_cons_succ]
       refine wpR_one (i:=20) (by kernel_rfl) ?_
       refine wpR_op (i:=20) rfl (by rfl) (fun K hK => ?_)
       go_simp;refine hK.out _ _ (Below.mono (grow_new _ _) (HSRC.out _ (((belowOrd B)).trans (((belowOrd B)).trans (((belowOrd B)).trans (((belowOrd B)).trans (((belowOrd B)).refl W0) hM13) hM6) hM12) hM19)).2) ?_;clear hK K
       try simp only [Act.put,List.setIfInBounds_toArray,List.set_cons_zero,List.set_cons_succ]
       generalize hwM20:World.alloc wM19 (Obj.cells #[] 41) = wM20;have hN20:Grow wM19 wM20:=by rw [← hwM20];exact grow_new _ _
       have hM20:Below B wM19 wM20:=Below.mono hN20 (HSRC.out _ (((belowOrd B)).trans (((belowOrd B)).trans (((belowOrd B)).trans (((belowOrd B)).trans (((belowOrd B)).refl W0) hM13) hM6) hM12) hM19)).2;clear hwM20;refine wpR_one (i:=26) (by kernel_rfl) ?_
       refine wpR_op (i:=26) rfl (by rfl) (fun K hK => ?_)
       refine wp_cat_decs _ _ rfl W0.heap.size _ nd.decs.length c3 A3 nd.decs rfl rfl rfl (Nat.le_trans HFK.out.2.2.2.1 (by decide)) (HSRC.out _ (((belowOrd B)).trans (((belowOrd B)).trans (((belowOrd B)).trans (((belowOrd B)).trans (((belowOrd B)).trans (((belowOrd B)).refl W0) hM13) hM6) hM12) hM19) hM20)).1.2.2 (Below.size (((belowOrd B)).trans (((belowOrd B)).trans (((belowOrd B)).trans (((belowOrd B)).trans (((belowOrd B)).trans (((belowOrd B)).refl W0) hM13) hM6) hM12) hM19) hM20)) ?_
       intro A26 c26 wM26 hC26 hN26;have hM26:Below B wM20 wM26:=Below.mono hN26 (HSRC.out _ (((belowOrd B)).trans (((belowOrd B)).trans (((belowOrd B)).trans (((belowOrd B)).trans (((belowOrd B)).trans (((belowOrd B)).refl W0) hM13) hM6) hM12) hM19) hM20)).2;refine hK.out _ _ hM26 ?_;clear hK K
       try simp only [Act.put,List.setIfInBounds_toArray,List.set_cons_zero,List.set_cons_succ]
       refine wpR_take (belowOrd B) (i:=27) (v:=?vf38) rfl (by kernel_rfl) (by kernel_rfl) (by kernel_rfl) (fun _ _ _ h => h) (by rfl) ?hf38 ?rf38
       case hf38 => (intro wg hSw;go_simp <;> with_reducible rfl)
       simp only [Act.put,List.setIfInBounds_toArray,List.set_cons_zero,List.set_cons_succ];refine wpR_one (i:=28) (by kernel_rfl) ?_
       refine wpR_op (i:=28) rfl (by rfl) (fun K hK => ?_)
       go_simp;refine hK.out _ _ (Below.mono (grow_new _ _) (HSRC.out _ (((belowOrd B)).trans (((belowOrd B)).trans (((belowOrd B)).trans (((belowOrd B)).trans (((belowOrd B)).trans (((belowOrd B)).trans (((belowOrd B)).refl W0) hM13) hM6) hM12) hM19) hM20) hM26)).2) ?_;clear hK K
       try simp only [Act.put,List.setIfInBounds_toArray,List.set_cons_zero,List.set_cons_succ]
       generalize hwM28:World.alloc wM26 (Obj.cells #[.int .i64 nd.kind,.slice A12 nd.shp.length c12,.slice A19 nd.ints.length c19,.slice A26 nd.decs.length c26] 34) = wM28;have hN28:Grow wM26 wM28:=by rw [← hwM28];exact grow_new _ _
       have hC28:BoxN wM28 (wM26).heap.size nd.kind A12 nd.shp.length c12 A19 nd.ints.length c19 A26 nd.decs.length c26:=by rw [← hwM28];exact boxN_new _ _ _ _ _ _ _ _ _ _ _
       have hM28:Below B wM26 wM28:=Below.mono hN28 (HSRC.out _ (((belowOrd B)).trans (((belowOrd B)).trans (((belowOrd B)).trans (((belowOrd B)).trans (((belowOrd B)).trans (((belowOrd B)).trans (((belowOrd B)).refl W0) hM13) hM6) hM12) hM19) hM20) hM26)).2;clear hwM28;refine wpR_one (i:=29) (by kernel_rfl) ?_
       refine wpR_op (i:=29) rfl (by rfl) (fun K hK => ?_)
       refine wp_append_node _ _ rfl B W0.heap.size v (ns.take k) nd _ A12 A19 A26 c12 c19 c26 rfl (((((((hO.grow hN13).grow hN6).grow hN12).grow hN19).grow hN20).grow hN26).grow hN28) rfl hC28 ((((hC12.grow hN19).grow hN20).grow hN26).grow hN28) (((hC19.grow hN20).grow hN26).grow hN28) (hC26.grow hN28) HZ0.out HOL.out (by rw [HTL.out];omega) ?_
       intro v29 wM29 hC29 hM29;refine hK.out _ _ hM29 ?_;clear hK K
       try simp only [Act.put,List.setIfInBounds_toArray,List.set_cons_zero,List.set_cons_succ]
       refine wpR_take (belowOrd B) (i:=30) (v:=?vf39) rfl (by kernel_rfl) (by kernel_rfl) (by kernel_rfl) (fun _ _ _ h => h) (by rfl) ?hf39 ?rf39
       case hf39 => (intro wg hSw;go_simp <;> with_reducible rfl)
       simp only [Act.put,List.setIfInBounds_toArray,List.set_cons_zero,List.set_cons_succ];refine wpR_done (by kernel_rfl) ?_
       have HGW:=Hh (Below.trans HGZ.out (((belowOrd B)).trans (((belowOrd B)).trans (((belowOrd B)).trans (((belowOrd B)).trans (((belowOrd B)).trans (((belowOrd B)).trans (((belowOrd B)).trans (((belowOrd B)).trans (((belowOrd B)).refl W0) hM13) hM6) hM12) hM19) hM20) hM26) hM28) hM29));have HON:=Hh hC29;clear p0 p1 p2 p3;go_wp2;go_roundg (n - (k + 1))
       case rel => exact ⟨k + 1,v29,by omega,rfl,by go_num,rfl,Hh (by rw [HTK.out];exact HON.out),HGW⟩
       case measure => omega
      ·refine wpR_op (i:=20) rfl (by rfl) (fun K hK => ?_)
       go_simp;refine hK.out _ _ (Below.mono (grow_new _ _) (HSRC.out _ (((belowOrd B)).trans (((belowOrd B)).trans (((belowOrd B)).trans (((belowOrd B)).refl W0) hM13) hM6) hM12)).2) ?_;clear hK K
       try simp only [Act.put,List.setIfInBounds_toArray,List.set_cons_zero,List.set_cons_succ]
       generalize hwM20:World.alloc wM12 (Obj.cells #[] 41) = wM20;have hN20:Grow wM12 wM20:=by rw [← hwM20];exact grow_new _ _
       have hM20:Below B wM12 wM20:=Below.mono hN20 (HSRC.out _ (((belowOrd B)).trans (((belowOrd B)).trans (((belowOrd B)).trans (((belowOrd B)).refl W0) hM13) hM6) hM12)).2;clear hwM20;refine wpR_one (i:=19) (by kernel_rfl) ?_
       refine wpR_op (i:=19) rfl (by rfl) (fun K hK => ?_)
       refine wp_cat_nums _ _ rfl W0.heap.size _ nd.ints.length c2 A2 nd.ints rfl rfl rfl (Nat.le_trans HFK.out.2.2.1 (by decide)) (HSRC.out _ (((belowOrd B)).trans (((belowOrd B)).trans (((belowOrd B)).trans (((belowOrd B)).trans (((belowOrd B)).refl W0) hM13) hM6) hM12) hM20)).1.2.1 (Below.size (((belowOrd B)).trans (((belowOrd B)).trans (((belowOrd B)).trans (((belowOrd B)).trans (((belowOrd B)).refl W0) hM13) hM6) hM12) hM20)) ?_
       intro A19 c19 wM19 hC19 hN19;have hM19:Below B wM20 wM19:=Below.mono hN19 (HSRC.out _ (((belowOrd B)).trans (((belowOrd B)).trans (((belowOrd B)).trans (((belowOrd B)).trans (((belowOrd B)).refl W0) hM13) hM6) hM12) hM20)).2;refine hK.out _ _ hM19 ?_;clear hK K
       try simp only [Act.put,List.setIfInBounds_toArray,List.set_cons_zero,List.set_cons_succ]
       refine wpR_one (i:=26) (by kernel_rfl) ?_
       refine wpR_op (i:=26) rfl (by rfl) (fun K hK => ?_)
       refine wp_cat_decs _ _ rfl W0.heap.size _ nd.decs.length c3 A3 nd.decs rfl rfl rfl (Nat.le_trans HFK.out.2.2.2.1 (by decide)) (HSRC.out _ (((belowOrd B)).trans (((belowOrd B)).trans (((belowOrd B)).trans (((belowOrd B)).trans (((belowOrd B)).trans (((belowOrd B)).refl W0) hM13) hM6) hM12) hM20) hM19)).1.2.2 (Below.size (((belowOrd B)).trans (((belowOrd B)).trans (((belowOrd B)).trans (((belowOrd B)).trans (((belowOrd B)).trans (((belowOrd B)).refl W0) hM13) hM6) hM12) hM20) hM19)) ?_
       intro A26 c26 wM26 hC26 hN26;have hM26:Below B wM19 wM26:=Below.mono hN26 (HSRC.out _ (((belowOrd B)).trans (((belowOrd B)).trans (((belowOrd B)).trans (((belowOrd B)).trans (((belowOrd B)).trans (((belowOrd B)).refl W0) hM13) hM6) hM12) hM20) hM19)).2;refine hK.out _ _ hM26 ?_;clear hK K
       try simp only [Act.put,List.setIfInBounds_toArray,List.set_cons_zero,List.set_cons_succ]
       refine wpR_take (belowOrd B) (i:=27) (v:=?vf40) rfl (by kernel_rfl) (by kernel_rfl) (by kernel_rfl) (fun _ _ _ h => h) (by rfl) ?hf40 ?rf40
       case hf40 => (intro wg hSw;go_simp <;> with_reducible rfl)
       simp only [Act.put,List.setIfInBounds_toArray,List.set_cons_zero,List.set_cons_succ];refine wpR_one (i:=28) (by kernel_rfl) ?_
       refine wpR_op (i:=28) rfl (by rfl) (fun K hK => ?_)
       go_simp;refine hK.out _ _ (Below.mono (grow_new _ _) (HSRC.out _ (((belowOrd B)).trans (((belowOrd B)).trans (((belowOrd B)).trans (((belowOrd B)).trans (((belowOrd B)).trans (((belowOrd B)).trans (((belowOrd B)).refl W0) hM13) hM6) hM12) hM20) hM19) hM26)).2) ?_;clear hK K
       try simp only [Act.put,List.setIfInBounds_toArray,List.set_cons_zero,List.set_cons_succ]
       generalize hwM28:World.alloc wM26 (Obj.cells #[.int .i64 nd.kind,.slice A12 nd.shp.length c12,.slice A19 nd.ints.length c19,.slice A26 nd.decs.length c26] 34) = wM28;have hN28:Grow wM26 wM28:=by rw [← hwM28];exact grow_new _ _
       have hC28:BoxN wM28 (wM26).heap.size nd.kind A12 nd.shp.length c12 A19 nd.ints.length c19 A26 nd.decs.length c26:=by rw [← hwM28];exact boxN_new _ _ _ _ _ _ _ _ _ _ _
       have hM28:Below B wM26 wM28:=Below.mono hN28 (HSRC.out _ (((belowOrd B)).trans (((belowOrd B)).trans (((belowOrd B)).trans (((belowOrd B)).trans (((belowOrd B)).trans (((belowOrd B)).trans (((belowOrd B)).refl W0) hM13) hM6) hM12) hM20) hM19) hM26)).2;clear hwM28;refine wpR_one (i:=29) (by kernel_rfl) ?_
       refine wpR_op (i:=29) rfl (by rfl) (fun K hK => ?_)
       refine wp_append_node _ _ rfl B W0.heap.size v (ns.take k) nd _ A12 A19 A26 c12 c19 c26 rfl (((((((hO.grow hN13).grow hN6).grow hN12).grow hN20).grow hN19).grow hN26).grow hN28) rfl hC28 ((((hC12.grow hN20).grow hN19).grow hN26).grow hN28) ((hC19.grow hN26).grow hN28) (hC26.grow hN28) HZ0.out HOL.out (by rw [HTL.out];omega) ?_
       intro v29 wM29 hC29 hM29;refine hK.out _ _ hM29 ?_;clear hK K
       try simp only [Act.put,List.setIfInBounds_toArray,List.set_cons_zero,List.set_cons_succ]
       refine wpR_take (belowOrd B) (i:=30) (v:=?vf41) rfl (by kernel_rfl) (by kernel_rfl) (by kernel_rfl) (fun _ _ _ h => h) (by rfl) ?hf41 ?rf41
       case hf41 => (intro wg hSw;go_simp <;> with_reducible rfl)
       simp only [Act.put,List.setIfInBounds_toArray,List.set_cons_zero,List.set_cons_succ];refine wpR_done (by kernel_rfl) ?_
       have HGW:=Hh (Below.trans HGZ.out (((belowOrd B)).trans (((belowOrd B)).trans (((belowOrd B)).trans (((belowOrd B)).trans (((belowOrd B)).trans (((belowOrd B)).trans (((belowOrd B)).trans (((belowOrd B)).trans (((belowOrd B)).refl W0) hM13) hM6) hM12) hM20) hM19) hM26) hM28) hM29));have HON:=Hh hC29;clear p0 p1 p2 p3;go_wp2;go_roundg (n - (k + 1))
       case rel => exact ⟨k + 1,v29,by omega,rfl,by go_num,rfl,Hh (by rw [HTK.out];exact HON.out),HGW⟩
       case measure => omega
     ·refine wpR_op (i:=20) rfl (by rfl) (fun K hK => ?_)
      go_simp;refine hK.out _ _ (Below.mono (grow_new _ _) (HSRC.out _ (((belowOrd B)).trans (((belowOrd B)).trans (((belowOrd B)).refl W0) hM13) hM6)).2) ?_;clear hK K
      try simp only [Act.put,List.setIfInBounds_toArray,List.set_cons_zero,List.set_cons_succ]
      generalize hwM20:World.alloc wM6 (Obj.cells #[] 41) = wM20;have hN20:Grow wM6 wM20:=by rw [← hwM20];exact grow_new _ _
      have hM20:Below B wM6 wM20:=Below.mono hN20 (HSRC.out _ (((belowOrd B)).trans (((belowOrd B)).trans (((belowOrd B)).refl W0) hM13) hM6)).2;clear hwM20;refine wpR_one (i:=12) (by kernel_rfl) ?_
      refine wpR_op (i:=12) rfl (by rfl) (fun K hK => ?_)
      refine wp_cat_nums _ _ rfl W0.heap.size _ nd.shp.length c1 A1 nd.shp rfl rfl rfl (Nat.le_trans HFK.out.2.1 (by decide)) (HSRC.out _ (((belowOrd B)).trans (((belowOrd B)).trans (((belowOrd B)).trans (((belowOrd B)).refl W0) hM13) hM6) hM20)).1.1 (Below.size (((belowOrd B)).trans (((belowOrd B)).trans (((belowOrd B)).trans (((belowOrd B)).refl W0) hM13) hM6) hM20)) ?_
      intro A12 c12 wM12 hC12 hN12;have hM12:Below B wM20 wM12:=Below.mono hN12 (HSRC.out _ (((belowOrd B)).trans (((belowOrd B)).trans (((belowOrd B)).trans (((belowOrd B)).refl W0) hM13) hM6) hM20)).2;refine hK.out _ _ hM12 ?_;clear hK K
      try simp only [Act.put,List.setIfInBounds_toArray,List.set_cons_zero,List.set_cons_succ]
      refine wpR_one (i:=19) (by kernel_rfl) ?_
      refine wpR_op (i:=19) rfl (by rfl) (fun K hK => ?_)
      refine wp_cat_nums _ _ rfl W0.heap.size _ nd.ints.length c2 A2 nd.ints rfl rfl rfl (Nat.le_trans HFK.out.2.2.1 (by decide)) (HSRC.out _ (((belowOrd B)).trans (((belowOrd B)).trans (((belowOrd B)).trans (((belowOrd B)).trans (((belowOrd B)).refl W0) hM13) hM6) hM20) hM12)).1.2.1 (Below.size (((belowOrd B)).trans (((belowOrd B)).trans (((belowOrd B)).trans (((belowOrd B)).trans (((belowOrd B)).refl W0) hM13) hM6) hM20) hM12)) ?_
      intro A19 c19 wM19 hC19 hN19;have hM19:Below B wM12 wM19:=Below.mono hN19 (HSRC.out _ (((belowOrd B)).trans (((belowOrd B)).trans (((belowOrd B)).trans (((belowOrd B)).trans (((belowOrd B)).refl W0) hM13) hM6) hM20) hM12)).2;refine hK.out _ _ hM19 ?_;clear hK K
      try simp only [Act.put,List.setIfInBounds_toArray,List.set_cons_zero,List.set_cons_succ]
      refine wpR_one (i:=26) (by kernel_rfl) ?_
      refine wpR_op (i:=26) rfl (by rfl) (fun K hK => ?_)
      refine wp_cat_decs _ _ rfl W0.heap.size _ nd.decs.length c3 A3 nd.decs rfl rfl rfl (Nat.le_trans HFK.out.2.2.2.1 (by decide)) (HSRC.out _ (((belowOrd B)).trans (((belowOrd B)).trans (((belowOrd B)).trans (((belowOrd B)).trans (((belowOrd B)).trans (((belowOrd B)).refl W0) hM13) hM6) hM20) hM12) hM19)).1.2.2 (Below.size (((belowOrd B)).trans (((belowOrd B)).trans (((belowOrd B)).trans (((belowOrd B)).trans (((belowOrd B)).trans (((belowOrd B)).refl W0) hM13) hM6) hM20) hM12) hM19)) ?_
      intro A26 c26 wM26 hC26 hN26;have hM26:Below B wM19 wM26:=Below.mono hN26 (HSRC.out _ (((belowOrd B)).trans (((belowOrd B)).trans (((belowOrd B)).trans (((belowOrd B)).trans (((belowOrd B)).trans (((belowOrd B)).refl W0) hM13) hM6) hM20) hM12) hM19)).2;refine hK.out _ _ hM26 ?_;clear hK K
      try simp only [Act.put,List.setIfInBounds_toArray,List.set_cons_zero,List.set_cons_succ]
      refine wpR_take (belowOrd B) (i:=27) (v:=?vf42) rfl (by kernel_rfl) (by kernel_rfl) (by kernel_rfl) (fun _ _ _ h => h) (by rfl) ?hf42 ?rf42
      case hf42 => (intro wg hSw;go_simp <;> with_reducible rfl)
      simp only [Act.put,List.setIfInBounds_toArray,List.set_cons_zero,List.set_cons_succ];refine wpR_one (i:=28) (by kernel_rfl) ?_
      refine wpR_op (i:=28) rfl (by rfl) (fun K hK => ?_)
      go_simp;refine hK.out _ _ (Below.mono (grow_new _ _) (HSRC.out _ (((belowOrd B)).trans (((belowOrd B)).trans (((belowOrd B)).trans (((belowOrd B)).trans (((belowOrd B)).trans (((belowOrd B)).trans (((belowOrd B)).refl W0) hM13) hM6) hM20) hM12) hM19) hM26)).2) ?_;clear hK K
      try simp only [Act.put,List.setIfInBounds_toArray,List.set_cons_zero,List.set_cons_succ]
      generalize hwM28:World.alloc wM26 (Obj.cells #[.int .i64 nd.kind,.slice A12 nd.shp.length c12,.slice A19 nd.ints.length c19,.slice A26 nd.decs.length c26] 34) = wM28;have hN28:Grow wM26 wM28:=by rw [← hwM28];exact grow_new _ _
      have hC28:BoxN wM28 (wM26).heap.size nd.kind A12 nd.shp.length c12 A19 nd.ints.length c19 A26 nd.decs.length c26:=by rw [← hwM28];exact boxN_new _ _ _ _ _ _ _ _ _ _ _
      have hM28:Below B wM26 wM28:=Below.mono hN28 (HSRC.out _ (((belowOrd B)).trans (((belowOrd B)).trans (((belowOrd B)).trans (((belowOrd B)).trans (((belowOrd B)).trans (((belowOrd B)).trans (((belowOrd B)).refl W0) hM13) hM6) hM20) hM12) hM19) hM26)).2;clear hwM28;refine wpR_one (i:=29) (by kernel_rfl) ?_
      refine wpR_op (i:=29) rfl (by rfl) (fun K hK => ?_)
      refine wp_append_node _ _ rfl B W0.heap.size v (ns.take k) nd _ A12 A19 A26 c12 c19 c26 rfl (((((((hO.grow hN13).grow hN6).grow hN20).grow hN12).grow hN19).grow hN26).grow hN28) rfl hC28 (((hC12.grow hN19).grow hN26).grow hN28) ((hC19.grow hN26).grow hN28) (hC26.grow hN28) HZ0.out HOL.out (by rw [HTL.out];omega) ?_
      intro v29 wM29 hC29 hM29;refine hK.out _ _ hM29 ?_;clear hK K
      try simp only [Act.put,List.setIfInBounds_toArray,List.set_cons_zero,List.set_cons_succ]
      refine wpR_take (belowOrd B) (i:=30) (v:=?vf43) rfl (by kernel_rfl) (by kernel_rfl) (by kernel_rfl) (fun _ _ _ h => h) (by rfl) ?hf43 ?rf43
      case hf43 => (intro wg hSw;go_simp <;> with_reducible rfl)
      simp only [Act.put,List.setIfInBounds_toArray,List.set_cons_zero,List.set_cons_succ];refine wpR_done (by kernel_rfl) ?_
      have HGW:=Hh (Below.trans HGZ.out (((belowOrd B)).trans (((belowOrd B)).trans (((belowOrd B)).trans (((belowOrd B)).trans (((belowOrd B)).trans (((belowOrd B)).trans (((belowOrd B)).trans (((belowOrd B)).trans (((belowOrd B)).refl W0) hM13) hM6) hM20) hM12) hM19) hM26) hM28) hM29));have HON:=Hh hC29;clear p0 p1 p2 p3;go_wp2;go_roundg (n - (k + 1))
      case rel => exact ⟨k + 1,v29,by omega,rfl,by go_num,rfl,Hh (by rw [HTK.out];exact HON.out),HGW⟩
      case measure => omega
    ·refine wpR_op (i:=20) rfl (by rfl) (fun K hK => ?_)
     go_simp;refine hK.out _ _ (Below.mono (grow_new _ _) (HSRC.out _ (((belowOrd B)).trans (((belowOrd B)).refl W0) hM13)).2) ?_;clear hK K
     try simp only [Act.put,List.setIfInBounds_toArray,List.set_cons_zero,List.set_cons_succ]
     generalize hwM20:World.alloc wM13 (Obj.cells #[] 41) = wM20;have hN20:Grow wM13 wM20:=by rw [← hwM20];exact grow_new _ _
     have hM20:Below B wM13 wM20:=Below.mono hN20 (HSRC.out _ (((belowOrd B)).trans (((belowOrd B)).refl W0) hM13)).2;clear hwM20;refine wpR_one (i:=6) (by kernel_rfl) ?_
     refine wpR_op (i:=6) rfl (by rfl) (fun K hK => ?_)
     go_simp;refine hK.out _ _ (Below.mono (grow_new _ _) (HSRC.out _ (((belowOrd B)).trans (((belowOrd B)).trans (((belowOrd B)).refl W0) hM13) hM20)).2) ?_;clear hK K
     try simp only [Act.put,List.setIfInBounds_toArray,List.set_cons_zero,List.set_cons_succ]
     generalize hwM6:World.alloc wM20 (Obj.cells #[] 3) = wM6;have hN6:Grow wM20 wM6:=by rw [← hwM6];exact grow_new _ _
     have hM6:Below B wM20 wM6:=Below.mono hN6 (HSRC.out _ (((belowOrd B)).trans (((belowOrd B)).trans (((belowOrd B)).refl W0) hM13) hM20)).2;clear hwM6;refine wpR_one (i:=12) (by kernel_rfl) ?_
     refine wpR_op (i:=12) rfl (by rfl) (fun K hK => ?_)
     refine wp_cat_nums _ _ rfl W0.heap.size _ nd.shp.length c1 A1 nd.shp rfl rfl rfl (Nat.le_trans HFK.out.2.1 (by decide)) (HSRC.out _ (((belowOrd B)).trans (((belowOrd B)).trans (((belowOrd B)).trans (((belowOrd B)).refl W0) hM13) hM20) hM6)).1.1 (Below.size (((belowOrd B)).trans (((belowOrd B)).trans (((belowOrd B)).trans (((belowOrd B)).refl W0) hM13) hM20) hM6)) ?_
     intro A12 c12 wM12 hC12 hN12;have hM12:Below B wM6 wM12:=Below.mono hN12 (HSRC.out _ (((belowOrd B)).trans (((belowOrd B)).trans (((belowOrd B)).trans (((belowOrd B)).refl W0) hM13) hM20) hM6)).2;refine hK.out _ _ hM12 ?_;clear hK K
     try simp only [Act.put,List.setIfInBounds_toArray,List.set_cons_zero,List.set_cons_succ]
     refine wpR_one (i:=19) (by kernel_rfl) ?_
     refine wpR_op (i:=19) rfl (by rfl) (fun K hK => ?_)
     refine wp_cat_nums _ _ rfl W0.heap.size _ nd.ints.length c2 A2 nd.ints rfl rfl rfl (Nat.le_trans HFK.out.2.2.1 (by decide)) (HSRC.out _ (((belowOrd B)).trans (((belowOrd B)).trans (((belowOrd B)).trans (((belowOrd B)).trans (((belowOrd B)).refl W0) hM13) hM20) hM6) hM12)).1.2.1 (Below.size (((belowOrd B)).trans (((belowOrd B)).trans (((belowOrd B)).trans (((belowOrd B)).trans (((belowOrd B)).refl W0) hM13) hM20) hM6) hM12)) ?_
     intro A19 c19 wM19 hC19 hN19;have hM19:Below B wM12 wM19:=Below.mono hN19 (HSRC.out _ (((belowOrd B)).trans (((belowOrd B)).trans (((belowOrd B)).trans (((belowOrd B)).trans (((belowOrd B)).refl W0) hM13) hM20) hM6) hM12)).2;refine hK.out _ _ hM19 ?_;clear hK K
     try simp only [Act.put,List.setIfInBounds_toArray,List.set_cons_zero,List.set_cons_succ]
     refine wpR_one (i:=26) (by kernel_rfl) ?_
     refine wpR_op (i:=26) rfl (by rfl) (fun K hK => ?_)
     refine wp_cat_decs _ _ rfl W0.heap.size _ nd.decs.length c3 A3 nd.decs rfl rfl rfl (Nat.le_trans HFK.out.2.2.2.1 (by decide)) (HSRC.out _ (((belowOrd B)).trans (((belowOrd B)).trans (((belowOrd B)).trans (((belowOrd B)).trans (((belowOrd B)).trans (((belowOrd B)).refl W0) hM13) hM20) hM6) hM12) hM19)).1.2.2 (Below.size (((belowOrd B)).trans (((belowOrd B)).trans (((belowOrd B)).trans (((belowOrd B)).trans (((belowOrd B)).trans (((belowOrd B)).refl W0) hM13) hM20) hM6) hM12) hM19)) ?_
     intro A26 c26 wM26 hC26 hN26;have hM26:Below B wM19 wM26:=Below.mono hN26 (HSRC.out _ (((belowOrd B)).trans (((belowOrd B)).trans (((belowOrd B)).trans (((belowOrd B)).trans (((belowOrd B)).trans (((belowOrd B)).refl W0) hM13) hM20) hM6) hM12) hM19)).2;refine hK.out _ _ hM26 ?_;clear hK K
     try simp only [Act.put,List.setIfInBounds_toArray,List.set_cons_zero,List.set_cons_succ]
     refine wpR_take (belowOrd B) (i:=27) (v:=?vf44) rfl (by kernel_rfl) (by kernel_rfl) (by kernel_rfl) (fun _ _ _ h => h) (by rfl) ?hf44 ?rf44
     case hf44 => (intro wg hSw;go_simp <;> with_reducible rfl)
     simp only [Act.put,List.setIfInBounds_toArray,List.set_cons_zero,List.set_cons_succ];refine wpR_one (i:=28) (by kernel_rfl) ?_
     refine wpR_op (i:=28) rfl (by rfl) (fun K hK => ?_)
     go_simp;refine hK.out _ _ (Below.mono (grow_new _ _) (HSRC.out _ (((belowOrd B)).trans (((belowOrd B)).trans (((belowOrd B)).trans (((belowOrd B)).trans (((belowOrd B)).trans (((belowOrd B)).trans (((belowOrd B)).refl W0) hM13) hM20) hM6) hM12) hM19) hM26)).2) ?_;clear hK K
     try simp only [Act.put,List.setIfInBounds_toArray,List.set_cons_zero,List.set_cons_succ]
     generalize hwM28:World.alloc wM26 (Obj.cells #[.int .i64 nd.kind,.slice A12 nd.shp.length c12,.slice A19 nd.ints.length c19,.slice A26 nd.decs.length c26] 34) = wM28;have hN28:Grow wM26 wM28:=by rw [← hwM28];exact grow_new _ _
     have hC28:BoxN wM28 (wM26).heap.size nd.kind A12 nd.shp.length c12 A19 nd.ints.length c19 A26 nd.decs.length c26:=by rw [← hwM28];exact boxN_new _ _ _ _ _ _ _ _ _ _ _
     have hM28:Below B wM26 wM28:=Below.mono hN28 (HSRC.out _ (((belowOrd B)).trans (((belowOrd B)).trans (((belowOrd B)).trans (((belowOrd B)).trans (((belowOrd B)).trans (((belowOrd B)).trans (((belowOrd B)).refl W0) hM13) hM20) hM6) hM12) hM19) hM26)).2;clear hwM28;refine wpR_one (i:=29) (by kernel_rfl) ?_
     refine wpR_op (i:=29) rfl (by rfl) (fun K hK => ?_)
     refine wp_append_node _ _ rfl B W0.heap.size v (ns.take k) nd _ A12 A19 A26 c12 c19 c26 rfl (((((((hO.grow hN13).grow hN20).grow hN6).grow hN12).grow hN19).grow hN26).grow hN28) rfl hC28 (((hC12.grow hN19).grow hN26).grow hN28) ((hC19.grow hN26).grow hN28) (hC26.grow hN28) HZ0.out HOL.out (by rw [HTL.out];omega) ?_
     intro v29 wM29 hC29 hM29;refine hK.out _ _ hM29 ?_;clear hK K
     try simp only [Act.put,List.setIfInBounds_toArray,List.set_cons_zero,List.set_cons_succ]
     refine wpR_take (belowOrd B) (i:=30) (v:=?vf45) rfl (by kernel_rfl) (by kernel_rfl) (by kernel_rfl) (fun _ _ _ h => h) (by rfl) ?hf45 ?rf45
     case hf45 => (intro wg hSw;go_simp <;> with_reducible rfl)
     simp only [Act.put,List.setIfInBounds_toArray,List.set_cons_zero,List.set_cons_succ];refine wpR_done (by kernel_rfl) ?_
     have HGW:=Hh (Below.trans HGZ.out (((belowOrd B)).trans (((belowOrd B)).trans (((belowOrd B)).trans (((belowOrd B)).trans (((belowOrd B)).trans (((belowOrd B)).trans (((belowOrd B)).trans (((belowOrd B)).trans (((belowOrd B)).refl W0) hM13) hM20) hM6) hM12) hM19) hM26) hM28) hM29));have HON:=Hh hC29;clear p0 p1 p2 p3;go_wp2;go_roundg (n - (k + 1))
     case rel => exact ⟨k + 1,v29,by omega,rfl,by go_num,rfl,Hh (by rw [HTK.out];exact HON.out),HGW⟩
     case measure => omega
   ·refine wpR_op (i:=20) rfl (by rfl) (fun K hK => ?_)
    go_simp;refine hK.out _ _ (Below.mono (grow_new _ _) (HSRC.out _ (((belowOrd B)).refl W0)).2) ?_;clear hK K
    try simp only [Act.put,List.setIfInBounds_toArray,List.set_cons_zero,List.set_cons_succ]
    generalize hwM20:World.alloc W0 (Obj.cells #[] 41) = wM20;have hN20:Grow W0 wM20:=by rw [← hwM20];exact grow_new _ _
    have hM20:Below B W0 wM20:=Below.mono hN20 (HSRC.out _ (((belowOrd B)).refl W0)).2;clear hwM20;refine wpR_two (i:=6) (j:=13) (by kernel_rfl) ?_ ?_
    ·refine wpR_op (i:=6) rfl (by rfl) (fun K hK => ?_)
     go_simp;refine hK.out _ _ (Below.mono (grow_new _ _) (HSRC.out _ (((belowOrd B)).trans (((belowOrd B)).refl W0) hM20)).2) ?_;clear hK K
     try simp only [Act.put,List.setIfInBounds_toArray,List.set_cons_zero,List.set_cons_succ]
     generalize hwM6:World.alloc wM20 (Obj.cells #[] 3) = wM6;have hN6:Grow wM20 wM6:=by rw [← hwM6];exact grow_new _ _
     have hM6:Below B wM20 wM6:=Below.mono hN6 (HSRC.out _ (((belowOrd B)).trans (((belowOrd B)).refl W0) hM20)).2;clear hwM6;refine wpR_two (i:=12) (j:=13) (by kernel_rfl) ?_ ?_
     ·refine wpR_op (i:=12) rfl (by rfl) (fun K hK => ?_)
      refine wp_cat_nums _ _ rfl W0.heap.size _ nd.shp.length c1 A1 nd.shp rfl rfl rfl (Nat.le_trans HFK.out.2.1 (by decide)) (HSRC.out _ (((belowOrd B)).trans (((belowOrd B)).trans (((belowOrd B)).refl W0) hM20) hM6)).1.1 (Below.size (((belowOrd B)).trans (((belowOrd B)).trans (((belowOrd B)).refl W0) hM20) hM6)) ?_
      intro A12 c12 wM12 hC12 hN12;have hM12:Below B wM6 wM12:=Below.mono hN12 (HSRC.out _ (((belowOrd B)).trans (((belowOrd B)).trans (((belowOrd B)).refl W0) hM20) hM6)).2;refine hK.out _ _ hM12 ?_;clear hK K
      try simp only [Act.put,List.setIfInBounds_toArray,List.set_cons_zero,List.set_cons_succ]
      refine wpR_one (i:=13) (by kernel_rfl) ?_
      refine wpR_op (i:=13) rfl (by rfl) (fun K hK => ?_)
      go_simp;refine hK.out _ _ (Below.mono (grow_new _ _) (HSRC.out _ (((belowOrd B)).trans (((belowOrd B)).trans (((belowOrd B)).trans (((belowOrd B)).refl W0) hM20) hM6) hM12)).2) ?_;clear hK K
      try simp only [Act.put,List.setIfInBounds_toArray,List.set_cons_zero,List.set_cons_succ]
      generalize hwM13:World.alloc wM12 (Obj.cells #[] 3) = wM13;have hN13:Grow wM12 wM13:=by rw [← hwM13];exact grow_new _ _
      have hM13:Below B wM12 wM13:=Below.mono hN13 (HSRC.out _ (((belowOrd B)).trans (((belowOrd B)).trans (((belowOrd B)).trans (((belowOrd B)).refl W0) hM20) hM6) hM12)).2;clear hwM13;refine wpR_one (i:=19) (by kernel_rfl) ?_
      refine wpR_op (i:=19) rfl (by rfl) (fun K hK => ?_)
      refine wp_cat_nums _ _ rfl W0.heap.size _ nd.ints.length c2 A2 nd.ints rfl rfl rfl (Nat.le_trans HFK.out.2.2.1 (by decide)) (HSRC.out _ (((belowOrd B)).trans (((belowOrd B)).trans (((belowOrd B)).trans (((belowOrd B)).trans (((belowOrd B)).refl W0) hM20) hM6) hM12) hM13)).1.2.1 (Below.size (((belowOrd B)).trans (((belowOrd B)).trans (((belowOrd B)).trans (((belowOrd B)).trans (((belowOrd B)).refl W0) hM20) hM6) hM12) hM13)) ?_
      intro A19 c19 wM19 hC19 hN19;have hM19:Below B wM13 wM19:=Below.mono hN19 (HSRC.out _ (((belowOrd B)).trans (((belowOrd B)).trans (((belowOrd B)).trans (((belowOrd B)).trans (((belowOrd B)).refl W0) hM20) hM6) hM12) hM13)).2;refine hK.out _ _ hM19 ?_;clear hK K
      try simp only [Act.put,List.setIfInBounds_toArray,List.set_cons_zero,List.set_cons_succ]
      refine wpR_one (i:=26) (by kernel_rfl) ?_
      refine wpR_op (i:=26) rfl (by rfl) (fun K hK => ?_)
      refine wp_cat_decs _ _ rfl W0.heap.size _ nd.decs.length c3 A3 nd.decs rfl rfl rfl (Nat.le_trans HFK.out.2.2.2.1 (by decide)) (HSRC.out _ (((belowOrd B)).trans (((belowOrd B)).trans (((belowOrd B)).trans (((belowOrd B)).trans (((belowOrd B)).trans (((belowOrd B)).refl W0) hM20) hM6) hM12) hM13) hM19)).1.2.2 (Below.size (((belowOrd B)).trans (((belowOrd B)).trans (((belowOrd B)).trans (((belowOrd B)).trans (((belowOrd B)).trans (((belowOrd B)).refl W0) hM20) hM6) hM12) hM13) hM19)) ?_
      intro A26 c26 wM26 hC26 hN26;have hM26:Below B wM19 wM26:=Below.mono hN26 (HSRC.out _ (((belowOrd B)).trans (((belowOrd B)).trans (((belowOrd B)).trans (((belowOrd B)).trans (((belowOrd B)).trans (((belowOrd B)).refl W0) hM20) hM6) hM12) hM13) hM19)).2;refine hK.out _ _ hM26 ?_;clear hK K
      try simp only [Act.put,List.setIfInBounds_toArray,List.set_cons_zero,List.set_cons_succ]
      refine wpR_take (belowOrd B) (i:=27) (v:=?vf46) rfl (by kernel_rfl) (by kernel_rfl) (by kernel_rfl) (fun _ _ _ h => h) (by rfl) ?hf46 ?rf46
      case hf46 => (intro wg hSw;go_simp <;> with_reducible rfl)
      simp only [Act.put,List.setIfInBounds_toArray,List.set_cons_zero,List.set_cons_succ];refine wpR_one (i:=28) (by kernel_rfl) ?_
      refine wpR_op (i:=28) rfl (by rfl) (fun K hK => ?_)
      go_simp;refine hK.out _ _ (Below.mono (grow_new _ _) (HSRC.out _ (((belowOrd B)).trans (((belowOrd B)).trans (((belowOrd B)).trans (((belowOrd B)).trans (((belowOrd B)).trans (((belowOrd B)).trans (((belowOrd B)).refl W0) hM20) hM6) hM12) hM13) hM19) hM26)).2) ?_;clear hK K
      try simp only [Act.put,List.setIfInBounds_toArray,List.set_cons_zero,List.set_cons_succ]
      generalize hwM28:World.alloc wM26 (Obj.cells #[.int .i64 nd.kind,.slice A12 nd.shp.length c12,.slice A19 nd.ints.length c19,.slice A26 nd.decs.length c26] 34) = wM28;have hN28:Grow wM26 wM28:=by rw [← hwM28];exact grow_new _ _
      have hC28:BoxN wM28 (wM26).heap.size nd.kind A12 nd.shp.length c12 A19 nd.ints.length c19 A26 nd.decs.length c26:=by rw [← hwM28];exact boxN_new _ _ _ _ _ _ _ _ _ _ _
      have hM28:Below B wM26 wM28:=Below.mono hN28 (HSRC.out _ (((belowOrd B)).trans (((belowOrd B)).trans (((belowOrd B)).trans (((belowOrd B)).trans (((belowOrd B)).trans (((belowOrd B)).trans (((belowOrd B)).refl W0) hM20) hM6) hM12) hM13) hM19) hM26)).2;clear hwM28;refine wpR_one (i:=29) (by kernel_rfl) ?_
      refine wpR_op (i:=29) rfl (by rfl) (fun K hK => ?_)
      refine wp_append_node _ _ rfl B W0.heap.size v (ns.take k) nd _ A12 A19 A26 c12 c19 c26 rfl (((((((hO.grow hN20).grow hN6).grow hN12).grow hN13).grow hN19).grow hN26).grow hN28) rfl hC28 ((((hC12.grow hN13).grow hN19).grow hN26).grow hN28) ((hC19.grow hN26).grow hN28) (hC26.grow hN28) HZ0.out HOL.out (by rw [HTL.out];omega) ?_
      intro v29 wM29 hC29 hM29;refine hK.out _ _ hM29 ?_;clear hK K
      try simp only [Act.put,List.setIfInBounds_toArray,List.set_cons_zero,List.set_cons_succ]
      refine wpR_take (belowOrd B) (i:=30) (v:=?vf47) rfl (by kernel_rfl) (by kernel_rfl) (by kernel_rfl) (fun _ _ _ h => h) (by rfl) ?hf47 ?rf47
      case hf47 => (intro wg hSw;go_simp <;> with_reducible rfl)
      simp only [Act.put,List.setIfInBounds_toArray,List.set_cons_zero,List.set_cons_succ];refine wpR_done (by kernel_rfl) ?_
      have HGW:=Hh (Below.trans HGZ.out (((belowOrd B)).trans (((belowOrd B)).trans (((belowOrd B)).trans (((belowOrd B)).trans (((belowOrd B)).trans (((belowOrd B)).trans (((belowOrd B)).trans (((belowOrd B)).trans (((belowOrd B)).refl W0) hM20) hM6) hM12) hM13) hM19) hM26) hM28) hM29));have HON:=Hh hC29;clear p0 p1 p2 p3;go_wp2;go_roundg (n - (k + 1))
      case rel => exact ⟨k + 1,v29,by omega,rfl,by go_num,rfl,Hh (by rw [HTK.out];exact HON.out),HGW⟩
      case measure => omega
     ·refine wpR_op (i:=13) rfl (by rfl) (fun K hK => ?_)
      go_simp;refine hK.out _ _ (Below.mono (grow_new _ _) (HSRC.out _ (((belowOrd B)).trans (((belowOrd B)).trans (((belowOrd B)).refl W0) hM20) hM6)).2) ?_;clear hK K
      try simp only [Act.put,List.setIfInBounds_toArray,List.set_cons_zero,List.set_cons_succ]
      generalize hwM13:World.alloc wM6 (Obj.cells #[] 3) = wM13;have hN13:Grow wM6 wM13:=by rw [← hwM13];exact grow_new _ _
      have hM13:Below B wM6 wM13:=Below.mono hN13 (HSRC.out _ (((belowOrd B)).trans (((belowOrd B)).trans (((belowOrd B)).refl W0) hM20) hM6)).2;clear hwM13;refine wpR_one (i:=12) (by kernel_rfl) ?_
      refine wpR_op (i:=12) rfl (by rfl) (fun K hK => ?_)
      refine wp_cat_nums _ _ rfl W0.heap.size _ nd.shp.length c1 A1 nd.shp rfl rfl rfl (Nat.le_trans HFK.out.2.1 (by decide)) (HSRC.out _ (((belowOrd B)).trans (((belowOrd B)).trans (((belowOrd B)).trans (((belowOrd B)).refl W0) hM20) hM6) hM13)).1.1 (Below.size (((belowOrd B)).trans (((belowOrd B)).trans (((belowOrd B)).trans (((belowOrd B)).refl W0) hM20) hM6) hM13)) ?_
      intro A12 c12 wM12 hC12 hN12;have hM12:Below B wM13 wM12:=Below.mono hN12 (HSRC.out _ (((belowOrd B)).trans (((belowOrd B)).trans (((belowOrd B)).trans (((belowOrd B)).refl W0) hM20) hM6) hM13)).2;refine hK.out _ _ hM12 ?_;clear hK K
      try simp only [Act.put,List.setIfInBounds_toArray,List.set_cons_zero,List.set_cons_succ]
      refine wpR_one (i:=19) (by kernel_rfl) ?_
      refine wpR_op (i:=19) rfl (by rfl) (fun K hK => ?_)
      refine wp_cat_nums _ _ rfl W0.heap.size _ nd.ints.length c2 A2 nd.ints rfl rfl rfl (Nat.le_trans HFK.out.2.2.1 (by decide)) (HSRC.out _ (((belowOrd B)).trans (((belowOrd B)).trans (((belowOrd B)).trans (((belowOrd B)).trans (((belowOrd B)).refl W0) hM20) hM6) hM13) hM12)).1.2.1 (Below.size (((belowOrd B)).trans (((belowOrd B)).trans (((belowOrd B)).trans (((belowOrd B)).trans (((belowOrd B)).refl W0) hM20) hM6) hM13) hM12)) ?_
      intro A19 c19 wM19 hC19 hN19;have hM19:Below B wM12 wM19:=Below.mono hN19 (HSRC.out _ (((belowOrd B)).trans (((belowOrd B)).trans (((belowOrd B)).trans (((belowOrd B)).trans (((belowOrd B)).refl W0) hM20) hM6) hM13) hM12)).2;refine hK.out _ _ hM19 ?_;clear hK K
      try simp only [Act.put,List.setIfInBounds_toArray,List.set_cons_zero,List.set_cons_succ]
      refine wpR_one (i:=26) (by kernel_rfl) ?_
      refine wpR_op (i:=26) rfl (by rfl) (fun K hK => ?_)
      refine wp_cat_decs _ _ rfl W0.heap.size _ nd.decs.length c3 A3 nd.decs rfl rfl rfl (Nat.le_trans HFK.out.2.2.2.1 (by decide)) (HSRC.out _ (((belowOrd B)).trans (((belowOrd B)).trans (((belowOrd B)).trans (((belowOrd B)).trans (((belowOrd B)).trans (((belowOrd B)).refl W0) hM20) hM6) hM13) hM12) hM19)).1.2.2 (Below.size (((belowOrd B)).trans (((belowOrd B)).trans (((belowOrd B)).trans (((belowOrd B)).trans (((belowOrd B)).trans (((belowOrd B)).refl W0) hM20) hM6) hM13) hM12) hM19)) ?_
      intro A26 c26 wM26 hC26 hN26;have hM26:Below B wM19 wM26:=Below.mono hN26 (HSRC.out _ (((belowOrd B)).trans (((belowOrd B)).trans (((belowOrd B)).trans (((belowOrd B)).trans (((belowOrd B)).trans (((belowOrd B)).refl W0) hM20) hM6) hM13) hM12) hM19)).2;refine hK.out _ _ hM26 ?_;clear hK K
      try simp only [Act.put,List.setIfInBounds_toArray,List.set_cons_zero,List.set_cons_succ]
      refine wpR_take (belowOrd B) (i:=27) (v:=?vf48) rfl (by kernel_rfl) (by kernel_rfl) (by kernel_rfl) (fun _ _ _ h => h) (by rfl) ?hf48 ?rf48
      case hf48 => (intro wg hSw;go_simp <;> with_reducible rfl)
      simp only [Act.put,List.setIfInBounds_toArray,List.set_cons_zero,List.set_cons_succ];refine wpR_one (i:=28) (by kernel_rfl) ?_
      refine wpR_op (i:=28) rfl (by rfl) (fun K hK => ?_)
      go_simp;refine hK.out _ _ (Below.mono (grow_new _ _) (HSRC.out _ (((belowOrd B)).trans (((belowOrd B)).trans (((belowOrd B)).trans (((belowOrd B)).trans (((belowOrd B)).trans (((belowOrd B)).trans (((belowOrd B)).refl W0) hM20) hM6) hM13) hM12) hM19) hM26)).2) ?_;clear hK K
      try simp only [Act.put,List.setIfInBounds_toArray,List.set_cons_zero,List.set_cons_succ]
      generalize hwM28:World.alloc wM26 (Obj.cells #[.int .i64 nd.kind,.slice A12 nd.shp.length c12,.slice A19 nd.ints.length c19,.slice A26 nd.decs.length c26] 34) = wM28;have hN28:Grow wM26 wM28:=by rw [← hwM28];exact grow_new _ _
      have hC28:BoxN wM28 (wM26).heap.size nd.kind A12 nd.shp.length c12 A19 nd.ints.length c19 A26 nd.decs.length c26:=by rw [← hwM28];exact boxN_new _ _ _ _ _ _ _ _ _ _ _
      have hM28:Below B wM26 wM28:=Below.mono hN28 (HSRC.out _ (((belowOrd B)).trans (((belowOrd B)).trans (((belowOrd B)).trans (((belowOrd B)).trans (((belowOrd B)).trans (((belowOrd B)).trans (((belowOrd B)).refl W0) hM20) hM6) hM13) hM12) hM19) hM26)).2;clear hwM28;refine wpR_one (i:=29) (by kernel_rfl) ?_
      refine wpR_op (i:=29) rfl (by rfl) (fun K hK => ?_)
      refine wp_append_node _ _ rfl B W0.heap.size v (ns.take k) nd _ A12 A19 A26 c12 c19 c26 rfl (((((((hO.grow hN20).grow hN6).grow hN13).grow hN12).grow hN19).grow hN26).grow hN28) rfl hC28 (((hC12.grow hN19).grow hN26).grow hN28) ((hC19.grow hN26).grow hN28) (hC26.grow hN28) HZ0.out HOL.out (by rw [HTL.out];omega) ?_
      intro v29 wM29 hC29 hM29;refine hK.out _ _ hM29 ?_;clear hK K
      try simp only [Act.put,List.setIfInBounds_toArray,List.set_cons_zero,List.set_cons_succ]
      refine wpR_take (belowOrd B) (i:=30) (v:=?vf49) rfl (by kernel_rfl) (by kernel_rfl) (by kernel_rfl) (fun _ _ _ h => h) (by rfl) ?hf49 ?rf49
      case hf49 => (intro wg hSw;go_simp <;> with_reducible rfl)
      simp only [Act.put,List.setIfInBounds_toArray,List.set_cons_zero,List.set_cons_succ];refine wpR_done (by kernel_rfl) ?_
      have HGW:=Hh (Below.trans HGZ.out (((belowOrd B)).trans (((belowOrd B)).trans (((belowOrd B)).trans (((belowOrd B)).trans (((belowOrd B)).trans (((belowOrd B)).trans (((belowOrd B)).trans (((belowOrd B)).trans (((belowOrd B)).refl W0) hM20) hM6) hM13) hM12) hM19) hM26) hM28) hM29));have HON:=Hh hC29;clear p0 p1 p2 p3;go_wp2;go_roundg (n - (k + 1))
      case rel => exact ⟨k + 1,v29,by omega,rfl,by go_num,rfl,Hh (by rw [HTK.out];exact HON.out),HGW⟩
      case measure => omega
    ·refine wpR_op (i:=13) rfl (by rfl) (fun K hK => ?_)
     go_simp;refine hK.out _ _ (Below.mono (grow_new _ _) (HSRC.out _ (((belowOrd B)).trans (((belowOrd B)).refl W0) hM20)).2) ?_;clear hK K
     try simp only [Act.put,List.setIfInBounds_toArray,List.set_cons_zero,List.set_cons_succ]
     generalize hwM13:World.alloc wM20 (Obj.cells #[] 3) = wM13;have hN13:Grow wM20 wM13:=by rw [← hwM13];exact grow_new _ _
     have hM13:Below B wM20 wM13:=Below.mono hN13 (HSRC.out _ (((belowOrd B)).trans (((belowOrd B)).refl W0) hM20)).2;clear hwM13;refine wpR_one (i:=6) (by kernel_rfl) ?_
     refine wpR_op (i:=6) rfl (by rfl) (fun K hK => ?_)
     go_simp;refine hK.out _ _ (Below.mono (grow_new _ _) (HSRC.out _ (((belowOrd B)).trans (((belowOrd B)).trans (((belowOrd B)).refl W0) hM20) hM13)).2) ?_;clear hK K
     try simp only [Act.put,List.setIfInBounds_toArray,List.set_cons_zero,List.set_cons_succ]
     generalize hwM6:World.alloc wM13 (Obj.cells #[] 3) = wM6;have hN6:Grow wM13 wM6:=by rw [← hwM6];exact grow_new _ _
     have hM6:Below B wM13 wM6:=Below.mono hN6 (HSRC.out _ (((belowOrd B)).trans (((belowOrd B)).trans (((belowOrd B)).refl W0) hM20) hM13)).2;clear hwM6;refine wpR_one (i:=12) (by kernel_rfl) ?_
     refine wpR_op (i:=12) rfl (by rfl) (fun K hK => ?_)
     refine wp_cat_nums _ _ rfl W0.heap.size _ nd.shp.length c1 A1 nd.shp rfl rfl rfl (Nat.le_trans HFK.out.2.1 (by decide)) (HSRC.out _ (((belowOrd B)).trans (((belowOrd B)).trans (((belowOrd B)).trans (((belowOrd B)).refl W0) hM20) hM13) hM6)).1.1 (Below.size (((belowOrd B)).trans (((belowOrd B)).trans (((belowOrd B)).trans (((belowOrd B)).refl W0) hM20) hM13) hM6)) ?_
     intro A12 c12 wM12 hC12 hN12;have hM12:Below B wM6 wM12:=Below.mono hN12 (HSRC.out _ (((belowOrd B)).trans (((belowOrd B)).trans (((belowOrd B)).trans (((belowOrd B)).refl W0) hM20) hM13) hM6)).2;refine hK.out _ _ hM12 ?_;clear hK K
     try simp only [Act.put,List.setIfInBounds_toArray,List.set_cons_zero,List.set_cons_succ]
     refine wpR_one (i:=19) (by kernel_rfl) ?_
     refine wpR_op (i:=19) rfl (by rfl) (fun K hK => ?_)
     refine wp_cat_nums _ _ rfl W0.heap.size _ nd.ints.length c2 A2 nd.ints rfl rfl rfl (Nat.le_trans HFK.out.2.2.1 (by decide)) (HSRC.out _ (((belowOrd B)).trans (((belowOrd B)).trans (((belowOrd B)).trans (((belowOrd B)).trans (((belowOrd B)).refl W0) hM20) hM13) hM6) hM12)).1.2.1 (Below.size (((belowOrd B)).trans (((belowOrd B)).trans (((belowOrd B)).trans (((belowOrd B)).trans (((belowOrd B)).refl W0) hM20) hM13) hM6) hM12)) ?_
     intro A19 c19 wM19 hC19 hN19;have hM19:Below B wM12 wM19:=Below.mono hN19 (HSRC.out _ (((belowOrd B)).trans (((belowOrd B)).trans (((belowOrd B)).trans (((belowOrd B)).trans (((belowOrd B)).refl W0) hM20) hM13) hM6) hM12)).2;refine hK.out _ _ hM19 ?_;clear hK K
     try simp only [Act.put,List.setIfInBounds_toArray,List.set_cons_zero,List.set_cons_succ]
     refine wpR_one (i:=26) (by kernel_rfl) ?_
     refine wpR_op (i:=26) rfl (by rfl) (fun K hK => ?_)
     refine wp_cat_decs _ _ rfl W0.heap.size _ nd.decs.length c3 A3 nd.decs rfl rfl rfl (Nat.le_trans HFK.out.2.2.2.1 (by decide)) (HSRC.out _ (((belowOrd B)).trans (((belowOrd B)).trans (((belowOrd B)).trans (((belowOrd B)).trans (((belowOrd B)).trans (((belowOrd B)).refl W0) hM20) hM13) hM6) hM12) hM19)).1.2.2 (Below.size (((belowOrd B)).trans (((belowOrd B)).trans (((belowOrd B)).trans (((belowOrd B)).trans (((belowOrd B)).trans (((belowOrd B)).refl W0) hM20) hM13) hM6) hM12) hM19)) ?_
     intro A26 c26 wM26 hC26 hN26;have hM26:Below B wM19 wM26:=Below.mono hN26 (HSRC.out _ (((belowOrd B)).trans (((belowOrd B)).trans (((belowOrd B)).trans (((belowOrd B)).trans (((belowOrd B)).trans (((belowOrd B)).refl W0) hM20) hM13) hM6) hM12) hM19)).2;refine hK.out _ _ hM26 ?_;clear hK K
     try simp only [Act.put,List.setIfInBounds_toArray,List.set_cons_zero,List.set_cons_succ]
     refine wpR_take (belowOrd B) (i:=27) (v:=?vf50) rfl (by kernel_rfl) (by kernel_rfl) (by kernel_rfl) (fun _ _ _ h => h) (by rfl) ?hf50 ?rf50
     case hf50 => (intro wg hSw;go_simp <;> with_reducible rfl)
     simp only [Act.put,List.setIfInBounds_toArray,List.set_cons_zero,List.set_cons_succ];refine wpR_one (i:=28) (by kernel_rfl) ?_
     refine wpR_op (i:=28) rfl (by rfl) (fun K hK => ?_)
     go_simp;refine hK.out _ _ (Below.mono (grow_new _ _) (HSRC.out _ (((belowOrd B)).trans (((belowOrd B)).trans (((belowOrd B)).trans (((belowOrd B)).trans (((belowOrd B)).trans (((belowOrd B)).trans (((belowOrd B)).refl W0) hM20) hM13) hM6) hM12) hM19) hM26)).2) ?_;clear hK K
     try simp only [Act.put,List.setIfInBounds_toArray,List.set_cons_zero,List.set_cons_succ]
     generalize hwM28:World.alloc wM26 (Obj.cells #[.int .i64 nd.kind,.slice A12 nd.shp.length c12,.slice A19 nd.ints.length c19,.slice A26 nd.decs.length c26] 34) = wM28;have hN28:Grow wM26 wM28:=by rw [← hwM28];exact grow_new _ _
     have hC28:BoxN wM28 (wM26).heap.size nd.kind A12 nd.shp.length c12 A19 nd.ints.length c19 A26 nd.decs.length c26:=by rw [← hwM28];exact boxN_new _ _ _ _ _ _ _ _ _ _ _
     have hM28:Below B wM26 wM28:=Below.mono hN28 (HSRC.out _ (((belowOrd B)).trans (((belowOrd B)).trans (((belowOrd B)).trans (((belowOrd B)).trans (((belowOrd B)).trans (((belowOrd B)).trans (((belowOrd B)).refl W0) hM20) hM13) hM6) hM12) hM19) hM26)).2;clear hwM28;refine wpR_one (i:=29) (by kernel_rfl) ?_
     refine wpR_op (i:=29) rfl (by rfl) (fun K hK => ?_)
     refine wp_append_node _ _ rfl B W0.heap.size v (ns.take k) nd _ A12 A19 A26 c12 c19 c26 rfl (((((((hO.grow hN20).grow hN13).grow hN6).grow hN12).grow hN19).grow hN26).grow hN28) rfl hC28 (((hC12.grow hN19).grow hN26).grow hN28) ((hC19.grow hN26).grow hN28) (hC26.grow hN28) HZ0.out HOL.out (by rw [HTL.out];omega) ?_
     intro v29 wM29 hC29 hM29;refine hK.out _ _ hM29 ?_;clear hK K
     try simp only [Act.put,List.setIfInBounds_toArray,List.set_cons_zero,List.set_cons_succ]
     refine wpR_take (belowOrd B) (i:=30) (v:=?vf51) rfl (by kernel_rfl) (by kernel_rfl) (by kernel_rfl) (fun _ _ _ h => h) (by rfl) ?hf51 ?rf51
     case hf51 => (intro wg hSw;go_simp <;> with_reducible rfl)
     simp only [Act.put,List.setIfInBounds_toArray,List.set_cons_zero,List.set_cons_succ];refine wpR_done (by kernel_rfl) ?_
     have HGW:=Hh (Below.trans HGZ.out (((belowOrd B)).trans (((belowOrd B)).trans (((belowOrd B)).trans (((belowOrd B)).trans (((belowOrd B)).trans (((belowOrd B)).trans (((belowOrd B)).trans (((belowOrd B)).trans (((belowOrd B)).refl W0) hM20) hM13) hM6) hM12) hM19) hM26) hM28) hM29));have HON:=Hh hC29;clear p0 p1 p2 p3;go_wp2;go_roundg (n - (k + 1))
     case rel => exact ⟨k + 1,v29,by omega,rfl,by go_num,rfl,Hh (by rw [HTK.out];exact HON.out),HGW⟩
     case measure => omega
  ·obtain rfl:n = k:=by omega
   have HTA:=Hh (show ns.take n = ns from List.take_of_length_le (by rw [HN.out];exact Nat.le_refl _))
   rw [HTA.out] at HO;go_wp2;go_ret;obtain ⟨A',c',hv,hc,hN⟩:=HO.out.nodes;exact ⟨A',c',by rw [← hv];rfl,hc,by rw [HBE.out];exact hN,show Below w.heap.size w _ by rw [HBE.out];exact HG.out⟩
end Go.Proofs.YteoogioanjkacaaGreatDoor
