/-
  Contracts, joined: NodesIn. Nothing is claimed here by itself.
-/
import Derived.Test.YteoogioanjkacaaGreatDoorU14
import Derived.Deep.SlicePairs
import Derived.OpenShut
import Derived.ChangeSlices
import Derived.KernelRfl
set_option maxRecDepth 100000
set_option maxHeartbeats 12800000
set_option linter.unusedSimpArgs false
set_option linter.unusedVariables false
namespace Go.Proofs.YteoogioanjkacaaGreatDoor
open Go.RowKit Go.ChangeShapes Go.WideShapes
def intIn:Value → Int | .int _ n => n | _ => 0
section
variable {H : Type} {enc : TypeId × Value → H} {W : World}
theorem open_nums_cell {fuel:Nat} {v:Value} {x:DataW H × List MemPlace} (h:DataW.trod enc Tryz.prog W 0 (fun _ => true) true fuel 31 [v] = some x) :
  ∃ A c xs,v = .slice A xs.length c ∧ xs.length ≤ 9223372036854775807 ∧ Nums .i64 W W.heap.size A xs ∧ ∀ x ∈ xs,In x:=by
 rcases open_ints Tryz.underlying31 Tryz.underlying3 (by kernel_rfl) h with ⟨hcs,_⟩ | ⟨x,l,c,zs,hcs,_,hl,hm,hz,_,hcell,hwz⟩
 ·simp at hcs
  exact ⟨none,0,[],hcs,by decide,Nums.none_,fun x hx => by cases hx⟩
 ·simp at hcs hz
  have hlen:(zs.take l).length = l:=by rw [List.length_take];omega
  refine ⟨some x,c,zs.take l,by rw [hlen];exact hcs,by rw [hlen];exact Nat.le_trans hl hm,fun hp => ?_,fun x hx => ?_⟩
  rotate_left
  ·have hb:=bounds_i64 (hwz x (List.mem_of_mem_take hx))
   exact ⟨by omega,by omega⟩
  rw [hlen] at hp;have h0:=hcell 0 (by omega)
  obtain ⟨b,off,spot⟩:=x;have hspot:spot = none:=by simpa [Addr.add] using World.cell?_spot h0
  subst hspot;refine ⟨b,off,rfl,by simpa [Addr.add] using block_lt_of_cell h0,fun i hi => ?_⟩
  rw [hlen] at hi;have h1:=hcell i (by omega)
  rw [Addr.add_lit] at h1;rw [h1];simp [hi]
theorem open_decs_cell {fuel:Nat} {v:Value} {x:DataW H × List MemPlace} (h:DataW.trod enc Tryz.prog W 0 (fun _ => true) true fuel 32 [v] = some x) :
  ∃ A c ds,v = .slice A ds.length c ∧ ds.length ≤ 9223372036854775807 ∧ Decs W W.heap.size A ds ∧ ∀ x ∈ ds,In x.1 ∧ In x.2:=by
 rcases Go.Deep.open_slice_pairs Tryz.underlying32 Tryz.underlying41 (by kernel_rfl) (by kernel_rfl) (by kernel_rfl) (by kernel_rfl) (by kernel_rfl) h with ⟨hcs,_⟩ | ⟨x,l,c,m,n,V0,V1,D0,D1,P0,P1,hcs,_,hl,hm,hmm,_,hall⟩
 ·simp at hcs
  exact ⟨none,0,[],hcs,by decide,Decs.none_,fun x hx => by cases hx⟩
 ·simp at hcs
  have hlm:l ≤ m:=by rw [hmm];split <;> omega
  have hint:∀ i,i < l → V0 i = .int .i64 (intIn (V0 i)) ∧ V1 i = .int .i64 (intIn (V1 i)) ∧ In (intIn (V0 i)) ∧ In (intIn (V1 i)):=fun i hi => by
   obtain ⟨_,_,t0,t1⟩:=hall i (by omega)
   obtain ⟨n0,e0,_,w0⟩:=DataW.trod_int (k:=.i64) Tryz.underlying3 t0;obtain ⟨n1,e1,_,w1⟩:=DataW.trod_int (k:=.i64) Tryz.underlying3 t1;simp only [List.cons.injEq,and_true] at e0 e1;have hb0:=bounds_i64 w0;have hb:=bounds_i64 w1;rw [e0,e1];refine ⟨rfl,rfl,⟨?_,?_⟩,⟨?_,?_⟩⟩ <;> simp only [intIn] <;> omega
  have hlen:((List.range l).map fun i => (intIn (V0 i),intIn (V1 i))).length = l:=by simp
  refine ⟨some x,c,(List.range l).map fun i => (intIn (V0 i),intIn (V1 i)),by rw [hlen];exact hcs,by rw [hlen];exact Nat.le_trans hl hm,fun hp => ?_,fun y hy => ?_⟩
  ·rw [hlen] at hp
   have h0:=(hall 0 (by omega)).1
   obtain ⟨b,off,spot⟩:=x;have hspot:spot = none:=by simpa [Addr.add] using World.cell?_spot h0
   subst hspot;refine ⟨b,off,rfl,by simpa [Addr.add] using block_lt_of_cell h0,fun i hi => ?_⟩
   rw [hlen] at hi;obtain ⟨h1,h2,_,_⟩:=hall i (by omega)
   have e:((List.range l).map fun i => (intIn (V0 i),intIn (V1 i))).getD i (0,0) = (intIn (V0 i),intIn (V1 i)):=by simp [hi]
   rw [e];rw [Addr.add_lit] at h1 h2;obtain ⟨q0,q1,_⟩:=hint i hi;exact ⟨by rw [h1];exact congrArg some q0,by rw [show off + i * 2 + 1 = off + (i * 2 + 1) by omega,h2];exact congrArg some q1⟩
  ·simp only [List.mem_map,List.mem_range] at hy
   obtain ⟨i,hi,rfl⟩:=hy;exact (hint i hi).2.2
theorem open_node_cells {fuel:Nat} {b o:Nat} {cs:List Value} {x:DataW H × List MemPlace} (hc:W.cells? 0 ⟨b,o,none⟩ 4 = some cs) (h:DataW.trod enc Tryz.prog W 0 (fun _ => true) true fuel 34 cs = some x) :
  ∃ n:Nd,NodeAt W W.heap.size b o n ∧ FitI n:=by
 obtain ⟨_,hlen,hcell⟩:=World.cells?_some hc;obtain ⟨xs,k,hk,hxy,_,hxl,hf⟩:=DataW.trod_struct Tryz.underlying34 h
 match xs,hxl,cs,hlen with
 | [y0,y1,y2,y3],_,[v0,v1,v2,v3],_ =>
  have g0:=hf 0 _ rfl;have g1:=hf 1 _ rfl;have g2:=hf 2 _ rfl;have g3:=hf 3 _ rfl;have k1:Tryz.prog.cellsOf 3 = 1:=by kernel_rfl
  have k2:Tryz.prog.cellsOf 31 = 1:=by kernel_rfl
  have k3:Tryz.prog.cellsOf 32 = 1:=by kernel_rfl
  simp [k1,k2,k3] at g0 g1 g2 g3;have e0:=hcell 0 (by omega)
  have e1:=hcell 1 (by omega)
  have e2:=hcell 2 (by omega)
  have e3:=hcell 3 (by omega)
  rw [Addr.add_lit] at e0 e1 e2 e3;obtain ⟨n0,q0,_,w0⟩:=DataW.trod_int (k:=.i64) Tryz.underlying3 g0;simp only [List.cons.injEq,and_true] at q0;have hb:=bounds_i64 w0;obtain ⟨A1,c1,xs1,rfl,l1,m1,_⟩:=open_nums_cell g1;obtain ⟨A2,c2,xs2,rfl,l2,m2,i2⟩:=open_nums_cell g2;obtain ⟨A3,c3,ds,rfl,l3,m3,i3⟩:=open_decs_cell g3;subst q0;exact ⟨⟨n0,xs1,xs2,ds⟩,⟨A1,c1,A2,c2,A3,c3,by simpa using e0,by simpa using e1,by simpa using e2,by simpa using e3,m1,m2,m3⟩,⟨by show _ ≤ n0;omega,by show n0 ≤ _;omega⟩,l1,l2,l3,i3,i2⟩
theorem open_nodes {base:Nat} {v:Value} {d:DataW H} {p:List MemPlace} (hv:Value.okWide Tryz.prog W .any base 22 v)
  (h:DataW.Trod enc Tryz.prog W 0 (fun _ => true) true 22 v d p):∃ a len cap zs,v = .slice a len cap ∧ IsNodes W a len cap zs:=by
 obtain ⟨a,len,cap,rfl⟩:=okWide_slice Tryz.underlying22 hv;obtain ⟨fuel,hf⟩:=h
 rcases Go.Deep.open_slice Tryz.underlying22 hf with ⟨hcs,_⟩ | ⟨x,l,c,m,n,D,Pl,hcs,_,hl,hm,hmm,_,hall⟩
 ·simp [Value.cells] at hcs
  obtain ⟨rfl,rfl,rfl⟩:=hcs;exact ⟨none,0,0,[],rfl,rfl,Nat.le_refl _,by decide,Nodes.none_,fun n hn => by cases hn⟩
 ·simp [Value.cells] at hcs
  obtain ⟨rfl,rfl,rfl⟩:=hcs;have hlm:len ≤ m:=by rw [hmm];split <;> omega
  rw [show Tryz.prog.cellsOf 34 = 4 by kernel_rfl] at hall
  have each:∀ i,i < len → ∃ nd:Nd,∃ b off,x = ⟨b,off,none⟩ ∧ NodeAt W W.heap.size b (off + i * 4) nd ∧ FitI nd:=fun i hi => by
   obtain ⟨cs',h1,h2⟩:=hall i (by omega)
   obtain ⟨b,off,spot⟩:=x;have hspot:spot = none:=by
    obtain ⟨cs0,q1,_⟩:=hall 0 (by omega)
    have hl:=(World.cells?_some q1).2.1;have q0:=(World.cells?_some q1).2.2 0 (by omega)
    match cs0,hl,q0 with
    | v0 :: _,_,q0 =>
     have:=World.cell?_spot (by simpa using q0)
     simpa [Addr.add] using this
   subst hspot;rw [Addr.add_lit] at h1;obtain ⟨nd,h3,h4⟩:=open_node_cells h1 h2;exact ⟨nd,b,off,rfl,h3,h4⟩
  obtain ⟨f,hF⟩:=Go.Deep.choose_lt each;have hlen:((List.range len).map f).length = len:=by simp
  refine ⟨some x,len,cap,(List.range len).map f,rfl,hlen,hl,hm,fun hp => ?_,fun y hy => ?_⟩
  ·rw [hlen] at hp
   obtain ⟨b,off,rfl,h0,_⟩:=hF 0 hp;refine ⟨b,off,rfl,?_,fun i hi => ?_⟩
   ·obtain ⟨A1,c1,A2,c2,A3,c3,k0,_⟩:=h0
    exact block_lt_of_cell k0
   ·rw [hlen] at hi
    obtain ⟨b',off',e,h1,_⟩:=hF i hi
    cases e
    have e:((List.range len).map f).getD i nd0 = f i:=by simp [hi]
    rw [e];exact h1
  ·simp only [List.mem_map,List.mem_range] at hy
   obtain ⟨i,hi,rfl⟩:=hy;obtain ⟨_,_,_,_,h4⟩:=hF i hi;exact h4
end
end Go.Proofs.YteoogioanjkacaaGreatDoor
