/-
  Contracts, joined: Lay, Make, Numbs. Nothing is claimed here by itself.
-/
import Derived.Test.YteoogioanjkacaaGreatDoorU01
import Derived.Test.YteoogioanjkacaaGreatDoorU04
import Derived.Test.YteoogioanjkacaaGreatDoorU05
set_option maxRecDepth 100000
set_option maxHeartbeats 12800000
set_option linter.unusedSimpArgs false
set_option linter.unusedVariables false
namespace Go.Proofs.YteoogioanjkacaaGreatDoor
open Go.RowKit Go.Lib
theorem grow_z {z:Nat} {w w':World} (hz:w.heap.size = z) (h:Below z w w'):Grow w w':=by subst hz;exact h
def NdT (T:Nat → Prop) (w:World) (B1 B2 B3:Option Addr) (q:Nd):Prop:=NumsT T w B1 q.shp ∧ NumsT T w B2 q.ints ∧ DecsT T w B3 q.decs
theorem NdT.grow {T:Nat → Prop} {w w':World} {B1 B2 B3:Option Addr} {q:Nd} (h:NdT T w B1 B2 B3 q) (hg:Grow w w'):NdT T w' B1 B2 B3 q:=⟨h.1.grow hg,h.2.1.grow hg,h.2.2.grow hg⟩
theorem NdT.keep {T T':Nat → Prop} {w w':World} {B1 B2 B3:Option Addr} {q:Nd} (h:NdT T w B1 B2 B3 q) (hk:∀ b,T b → T' b ∧ w'.heap[b]? = w.heap[b]?):NdT T' w' B1 B2 B3 q:=⟨h.1.keep hk,h.2.1.keep hk,h.2.2.keep hk⟩
theorem NdT.lt {T:Nat → Prop} {w:World} {B1 B2 B3:Option Addr} {q:Nd} (h:NdT T w B1 B2 B3 q):NdT (fun b => T b ∧ b < w.heap.size) w B1 B2 B3 q:=⟨h.1.lt,h.2.1.lt,h.2.2.lt⟩
theorem NdT.kept {g:Nat} {w w':World} {B1 B2 B3:Option Addr} {q:Nd} (h:NdT (fun b => ¬ b = g) w B1 B2 B3 q) (hk:Kept (fun k => k = g) w w'):NdT (fun b => ¬ b = g) w' B1 B2 B3 q:=⟨h.1.kept hk,h.2.1.kept hk,h.2.2.kept hk⟩
theorem below_put4 {z b:Nat} {w:World} (hb:z ≤ b) (u0 u1 u2 u3:Value):Below z w ((((w.setCell ⟨b,0,none⟩ u0).setCell ⟨b,1,none⟩ u1).setCell ⟨b,2,none⟩ u2).setCell ⟨b,3,none⟩ u3) :=
 Below.setCell (Below.setCell (Below.setCell (Below.setCell (Below.refl z w) hb u0) hb u1) hb u2) hb u3
theorem other4 {b k:Nat} {w:World} (hk:¬ k = b) (u0 u1 u2 u3:Value):((((w.setCell ⟨b,0,none⟩ u0).setCell ⟨b,1,none⟩ u1).setCell ⟨b,2,none⟩ u2).setCell ⟨b,3,none⟩ u3).heap[k]? = w.heap[k]?:=by
 refine (heap_setCell_other _ _ _ _ (show k ≠ b from hk)).trans ?_;refine (heap_setCell_other _ _ _ _ (show k ≠ b from hk)).trans ?_;refine (heap_setCell_other _ _ _ _ (show k ≠ b from hk)).trans ?_;exact heap_setCell_other _ _ _ _ (show k ≠ b from hk)
theorem tot_form {d c:Nat} {l:List Nd} {t:St} (h:parK (par d) c l = some t) (hl:Fine l) (hc:t.i + c ≤ 1100000):Fine (catF (par d) (formF d) c l) ∧ (catF (par d) (formF d) c l).length ≤ t.n ∧ tot (catF (par d) (formF d) c l) ≤ 1100000:=by
 obtain ⟨u,hu,hul,h1,h2,h3,h4,h5,h6⟩:=catF_good (fun l s h hl => formF_good h hl) h hl;have htl:=parK_len (fun l s h => (par_len h).2.1) h;have ht:=parK_tot (fun l s h => par_tot h) hu;rw [hul,List.take_length] at ht;exact ⟨⟨by have:=hl.1;omega,h4,h5⟩,by omega,by omega⟩
theorem fine_nil:Fine []:=⟨by decide,(fun x hx => by cases hx),(fun x hx => by cases hx)⟩
def LayP (g cap:Nat) (R L:List Nd) (w:World) (e:Ending) (w':World):Prop :=
 ∃ r A' q c',e = .returned (.tuple #[.slice (some ⟨g,0,none⟩) r cap,.slice A' q c']) ∧ R.length = r ∧ L.length = q ∧ q ≤ c' ∧ RowC w' g cap R ∧ NodesT (fun b => ¬ b = g) w' A' L ∧ Kept (fun k => k = g) w w'
theorem lay_any:∀ (e g cap m:Nat) (rs:List Nd) (A:Option Addr) (n c:Nat) (ns:List Nd) (s:St) (w:World),par e ns = some s → s.i ≤ 1099999 → Fine ns → cap ≤ 1100000 → rs.length = m → ns.length = n → m + n ≤ cap → n ≤ c → RowC w g cap rs → NodesT (fun b => ¬ b = g) w A ns →
  Calls Tryz.prog 68 #[.slice (some ⟨g,0,none⟩) m cap,.slice A n c] w (LayP g cap (rs ++ formF e ns) (ns.drop s.n) w):=by
 intro e
 induction e with
 | zero => intro g cap m rs A n c ns s w hp;cases hp
 | succ e ih =>
  intro g cap m rs A n c ns s w hp hsi hfine hcap hm hn hmn hnc hrow hns;obtain ⟨e',nd,l',t,he,rfl,hok,hpk,rfl⟩:=par_parts hp;obtain rfl:e = e':=by omega
  obtain ⟨hfit,hin,hfl⟩:=hfine.cons;obtain ⟨nl,hnl⟩:∃ nl,l'.length = nl:=⟨_,rfl⟩;have hn1:n = nl + 1:=by rw [← hn,List.length_cons,hnl]
  subst hn1;have htl:=parK_len (fun l s h => (par_len h).2.1) hpk;rw [hnl] at htl;simp only [top] at hsi;have hti:t.i + kc nd ≤ 1100000:=by
   have:kc nd ≤ cnt nd.shp:=by unfold kc;split <;> omega
   omega
  have HOK:=Hh hok;have HFIT:=Hh hfit;have HIN:=Hh hin;have HFL:=Hh hfl;have HNL:=Hh hnl;have HM:=Hh hm;have HPK:=Hh hpk;have HTI:=Hh hti;have HTF:=Hh (tot_form hpk hfl hti);have HFO:Hid (formF (e + 1) (nd :: l') = clos nd (catF (par e) (formF e) (kc nd) l')):=Hh rfl;have HDR:Hid ((nd :: l').drop (top nd t).n = l'.drop t.n):=Hh rfl;have IH:=Hh ih;obtain ⟨b,off,rfl,hb,hat⟩:=hns (by simp)
  have hleft:=NodesT.dropT hns 1;rw [show (nd :: l').drop 1 = l' from rfl,Nat.one_mul] at hleft;obtain ⟨A1,c1,A2,c2,A3,c3,p0,p1,p2,p3,m1,m2,m3⟩:=hat 0 (by simp)
  rw [Nat.zero_mul,Nat.add_zero] at p0 p1 p2 p3;rw [show (nd :: l').getD 0 nd0 = nd from rfl] at p0 p1 p2 p3 m1 m2 m3;have HND:Hid (NdT (fun b => ¬ b = g) w A1 A2 A3 nd):=Hh ⟨m1,m2,m3⟩;have HCUT:=Hh (NodesT.cut hns c 1 (by rw [List.length_cons,hnl];exact hnc))
  rw [show (nd :: l').drop 1 = l' from rfl] at HCUT;have HROW:=Hh hrow;have HGL:=Hh hrow.lt;have hs1:∀ W:World,(Instr.slice 22 (.slice (some ⟨b,off,none⟩) (nl + 1) c) (some (.int .i64 1)) none none).run Tryz.prog W = .ok (.slice (cutA (some ⟨b,off,none⟩) c 1) nl (c - 1)) W:=fun W => run_cut_lo (some ⟨b,off,none⟩) (nl + 1) c 1 (by omega) W
  obtain ⟨AL,hAL⟩:∃ AL,cutA (some ⟨b,off,none⟩) c 1 = AL:=⟨_,rfl⟩;rw [hAL] at hs1 HCUT;clear hok hfit hin hfl hnl hm hpk hti ih hat hb m1 m2 m3 hns hrow hfine hp hAL hleft;obtain ⟨l1,hl1⟩:∃ l1,nd.shp.length = l1:=⟨_,rfl⟩;obtain ⟨l2,hl2⟩:∃ l2,nd.ints.length = l2:=⟨_,rfl⟩;obtain ⟨l3,hl3⟩:∃ l3,nd.decs.length = l3:=⟨_,rfl⟩;have HL1:=Hh hl1;have HL2:=Hh hl2;have HL3:=Hh hl3;rw [hl1] at p1;rw [hl2] at p2;rw [hl3] at p3;have hl1b:l1 ≤ 1100000:=by rw [← hl1];exact HFIT.out.2.1
  have HFC:Hid (∀ (F:List Nd) (o:Option Nd),foldO nd F = o → Fine F → tot F ≤ 1100000 → ∀ (T:Nat → Prop) (AK:Option Addr) (f ck:Nat) (W:World),F.length = f → (∀ b,W.heap.size ≤ b → T b) → NdT T W A1 A2 A3 nd → Nodes W W.heap.size AK F →
    Calls Tryz.prog 111 #[.agg #[.int .i64 nd.kind,.slice A1 l1 c1,.slice A2 l2 c2,.slice A3 l3 c3],.slice AK f ck] W (OneP T o W)):=Hh (by
   intro F o ho hF hF2 T AK f ck W hf hT hd hk;rw [← ho,← hl1,← hl2,← hl3]
   exact fold_any T nd A1 A2 A3 c1 c2 c3 AK f ck F W hT HOK.out HFIT.out HIN.out hd.1 hd.2.1 hd.2.2 hf hF hF2 hk)
  clear hl1 hl2 hl3;obtain ⟨nb,hnb⟩:∃ nb,w.heap.size = nb:=⟨_,rfl⟩;have HNB:=Hh hnb;have hbx:=boxN_new w nd.kind A1 l1 c1 A2 l2 c2 A3 l3 c3;rw [hnb] at hbx;have HBX:=Hh hbx;have HG1:=Hh (grow_new w (.cells #[.int .i64 nd.kind,.slice A1 l1 c1,.slice A2 l2 c2,.slice A3 l3 c3] 34));clear hbx;generalize hkd:nd.kind = kd at *;have HKD:=Hh hkd;clear hkd;have hmi:((m:Nat):Int) ≤ 1100000:=by omega
  have hgb:Hid (¬ nb = g):=Hh (by have:=HGL.out;omega)
  go_enter Tryz.func68,Tryz.ntmps68
  go_wp2;generalize hw1:World.alloc w _ = w1;have HB1:Hid (BoxN w1 nb kd A1 l1 c1 A2 l2 c2 A3 l3 c3):=Hh (by rw [← hw1];exact HBX.out)
  have HGR1:Hid (Grow w w1):=Hh (by rw [← hw1];exact HG1.out)
  clear hw1 HBX HG1 p0 p1 p2 p3;have HROW1:=Hh (HROW.out.grow HGR1.out);refine wp_region_R ((Kept (fun k => k = g))) (n:=8) rfl (by kernel_rfl) ?_
  intro W0 hW0e hW0;have HW0:=Hh (HGR1.out.trans hW0);have HB0:=Hh (HB1.out.grow hW0);have HR0:=Hh (HROW1.out.grow hW0);have HBK:Hid (∀ wg,Kept (fun k => k = g) W0 wg → BoxN wg nb kd A1 l1 c1 A2 l2 c2 A3 l3 c3):=Hh (fun wg h => (h.block nb HB0.out.lt hgb.out).trans HB0.out);have b0:∀ wg,Kept (fun k => k = g) W0 wg → wg.cell? ⟨nb,0,none⟩ = some (.int .i64 kd):=fun wg h => (HBK.out wg h).at0;have b1:∀ wg,Kept (fun k => k = g) W0 wg → wg.cell? ⟨nb,1,none⟩ = some (.slice A1 l1 c1):=fun wg h => (HBK.out wg h).at1;have b2:∀ wg,Kept (fun k => k = g) W0 wg → wg.cell? ⟨nb,2,none⟩ = some (.slice A2 l2 c2):=fun wg h => (HBK.out wg h).at2;have b3:∀ wg,Kept (fun k => k = g) W0 wg → wg.cell? ⟨nb,3,none⟩ = some (.slice A3 l3 c3):=fun wg h => (HBK.out wg h).at3;clear hW0e;refine wpR_take (keptOrd (fun k => k = g)) (i:=0) (v:=?vf1) rfl (by kernel_rfl) (by kernel_rfl) (by kernel_rfl) (fun _ _ _ h => h) (by rfl) ?hf1 ?rf1
  case hf1 => (intro wg hSw;go_simp <;> with_reducible rfl)
  simp only [Act.put,List.setIfInBounds_toArray,List.set_cons_zero,List.set_cons_succ];refine wpR_take (keptOrd (fun k => k = g)) (i:=1) (v:=?vf2) rfl (by kernel_rfl) (by kernel_rfl) (by kernel_rfl) (fun _ _ _ h => h) (by rfl) ?hf2 ?rf2
  case hf2 => (intro wg hSw;go_simp <;> with_reducible rfl)
  simp only [Act.put,List.setIfInBounds_toArray,List.set_cons_zero,List.set_cons_succ];refine wpR_take (keptOrd (fun k => k = g)) (i:=4) (v:=?vf3) rfl (by kernel_rfl) (by kernel_rfl) (by kernel_rfl) (fun _ _ _ h => h) (by rfl) ?hf3 ?rf3
  case hf3 => (intro wg hSw;go_simp <;> with_reducible rfl)
  simp only [Act.put,List.setIfInBounds_toArray,List.set_cons_zero,List.set_cons_succ];refine wpR_take (keptOrd (fun k => k = g)) (i:=5) (v:=?vf4) rfl (by kernel_rfl) (by kernel_rfl) (by kernel_rfl) (fun _ _ _ h => h) (by rfl) ?hf4 ?rf4
  case hf4 => (intro wg hSw;go_simp <;> with_reducible rfl)
  simp only [Act.put,List.setIfInBounds_toArray,List.set_cons_zero,List.set_cons_succ];refine wpR_one (i:=2) (by kernel_rfl) ?_
  refine wpR_op (i:=2) rfl (by rfl) (fun K hK => ?_)
  go_simp;refine hK.out _ _ (Kept.of_grow (grow_new _ _)) ?_;clear hK K
  try simp only [Act.put,List.setIfInBounds_toArray,List.set_cons_zero,List.set_cons_succ]
  obtain ⟨sb,hsb⟩:∃ sb,W0.heap.size = sb:=⟨_,rfl⟩;have hbs:=boxN_new W0 kd A1 l1 c1 A2 l2 c2 A3 l3 c3;have hgs:=grow_new W0 (.cells #[.int .i64 kd,.slice A1 l1 c1,.slice A2 l2 c2,.slice A3 l3 c3] 34);rw [hsb] at hbs ⊢;generalize hwM2:World.alloc W0 (Obj.cells #[.int .i64 kd,.slice A1 l1 c1,.slice A2 l2 c2,.slice A3 l3 c3] 34) = wM2 at *;have HBS:=Hh hbs;have HGS:=Hh hgs;have hM2:Kept (fun k => k = g) W0 wM2:=Kept.of_grow hgs;clear hwM2 hsb hbs hgs;refine wpR_one (i:=3) (by kernel_rfl) ?_
  refine wpR_op (i:=3) rfl (by rfl) (fun K hK => ?_)
  refine wp_push _ _ rfl g cap m rs nd sb A1 A2 A3 l1 c1 l2 c2 l3 c3 rfl rfl (HR0.out.grow HGS.out) HM.out (by omega) (by rw [HKD.out];exact HBS.out) HL1.out HL2.out HL3.out ((HND.out.grow HW0.out).grow HGS.out).1 ((HND.out.grow HW0.out).grow HGS.out).2.1 ((HND.out.grow HW0.out).grow HGS.out).2.2 ?_
  intro wM3 hr3 hM3;refine hK.out _ _ hM3 ?_;clear hK K
  try simp only [Act.put,List.setIfInBounds_toArray,List.set_cons_zero,List.set_cons_succ]
  have HR3:=Hh hr3;have HK3:=Hh (((Kept.of_grow HW0.out).trans (Kept.of_grow HGS.out)).trans hM3);have HB3:=Hh (HBK.out _ ((Kept.of_grow HGS.out).trans hM3));clear hr3;refine wpR_take (keptOrd (fun k => k = g)) (i:=6) (v:=?vf5) rfl (by kernel_rfl) (by kernel_rfl) (by kernel_rfl) (fun _ _ _ h => h) (by rfl) ?hf5 ?rf5
  case hf5 => (intro wg hSw;go_simp <;> with_reducible rfl)
  simp only [Act.put,List.setIfInBounds_toArray,List.set_cons_zero,List.set_cons_succ];refine wpR_take (keptOrd (fun k => k = g)) (i:=7) (v:=?vf6) rfl (by kernel_rfl) (by kernel_rfl) (by kernel_rfl) (fun _ _ _ h => h) (by rfl) ?hf6 ?rf6
  case hf6 => (intro wg hSw;go_simp <;> with_reducible rfl)
  simp only [Act.put,List.setIfInBounds_toArray,List.set_cons_zero,List.set_cons_succ];refine wpR_done (by kernel_rfl) ?_
  clear b0 b1 b2 b3 hM2 hM3 HBK HBS HR0 HB0 HROW HROW1 HB1;have HN3:=Hh (HCUT.out.kept HK3.out);have HD3:=Hh (HND.out.kept HK3.out);have b0:=HB3.out.at0
  by_cases hk5:kd = 5
  rotate_left
  ·have hk5':(kd == 5) = false:=by simpa using hk5
   have HKC:Hid (kc nd = 0):=Hh (by unfold kc;rw [HKD.out];exact if_neg hk5)
   have HPZ:=HPK.out;rw [HKC.out,parK_zero] at HPZ;obtain rfl:st0 = t:=by cases HPZ;rfl
   have HCF:Hid (catF (par e) (formF e) (kc nd) l' = []):=Hh (by rw [HKC.out];rfl)
   have HFS:Hid (∃ q,foldO nd [] = some q):=Hh (by
    unfold foldO;rw [HKD.out]
    by_cases h3:kd = 3
    ·exact ⟨_,if_pos h3⟩
    ·exact ⟨_,by rw [if_neg h3,if_neg hk5]⟩)
   clear HPZ hk5;obtain ⟨q,hq⟩:=HFS.out;have HFQ:=Hh hq;have HCL:Hid (clos nd (catF (par e) (formF e) (kc nd) l') = [q]):=Hh (by rw [HCF.out];unfold clos;rw [hq])
   clear hq HFS;have hwm:IntKind.i64.wrap (((m:Nat):Int) + 1) = ((m:Nat):Int) + 1:=by rw [IntKind.wrap_i64];omega
   have hsk:∀ W:World,(Instr.slice 22 (.slice (some ⟨g,0,none⟩) (m + 1) cap) (some (.int .i64 (((m:Nat):Int) + 1))) none none).run Tryz.prog W = .ok (.slice (cutA (some ⟨g,0,none⟩) cap (m + 1)) 0 (cap - (m + 1))) W:=fun W => by
    have h:=run_cut_lo (some ⟨g,0,none⟩) (m + 1) cap (m + 1) (by omega) W
    rw [Int.natCast_add] at h;rw [show (m + 1) - (m + 1) = 0 by omega] at h
    exact h
   have hsh:∀ W:World,(Instr.slice 22 (.slice (some ⟨g,0,none⟩) (m + 1) cap) none (some (.int .i64 ((m:Nat):Int))) none).run Tryz.prog W = .ok (.slice (some ⟨g,0,none⟩) m cap) W:=fun W => run_cut_hi (some ⟨g,0,none⟩) (m + 1) cap m (by omega) W
   have HKK:Hid (∀ wg,Grow wM3 wg → Nodes wg wg.heap.size (cutA (some ⟨g,0,none⟩) cap (m + 1)) []):=Hh (fun wg h => by
    have h1:=((HR3.out.grow h).nodes).cut cap (m + 1) (HR3.out.elim fun cur h => h.2.2.1);rw [show (rs ++ nd :: []).drop (m + 1) = [] by rw [← HM.out];simp] at h1
    exact h1)
   obtain ⟨AK,hAK⟩:∃ AK,cutA (some ⟨g,0,none⟩) cap (m + 1) = AK:=⟨_,rfl⟩;rw [hAK] at hsk HKK;have HFW:=Hh (HFC.out [] _ HFQ.out fine_nil (by decide))
   clear hAK;obtain ⟨z,hz⟩:∃ z,(wM3).heap.size = z:=⟨_,rfl⟩;have HZW:=Hh hz;clear hz;go_wp2;refine wp_region_R ((Below z)) (n:=12) rfl (by kernel_rfl) ?_
   intro W0 hW0e hW0;have HGW0:=Hh hW0;have HZ0:Hid (W0.heap.size = z):=Hh (by rw [hW0e];exact HZW.out)
   have HB9:=Hh (HB3.out.grow hW0);have HBK:Hid (∀ wg,Below z W0 wg → BoxN wg nb kd A1 l1 c1 A2 l2 c2 A3 l3 c3):=Hh (fun wg h => HB9.out.grow (grow_z HZ0.out h));have b0:∀ wg,Below z W0 wg → wg.cell? ⟨nb,0,none⟩ = some (.int .i64 kd):=fun wg h => (HBK.out wg h).at0;have b1:∀ wg,Below z W0 wg → wg.cell? ⟨nb,1,none⟩ = some (.slice A1 l1 c1):=fun wg h => (HBK.out wg h).at1;have b2:∀ wg,Below z W0 wg → wg.cell? ⟨nb,2,none⟩ = some (.slice A2 l2 c2):=fun wg h => (HBK.out wg h).at2;have b3:∀ wg,Below z W0 wg → wg.cell? ⟨nb,3,none⟩ = some (.slice A3 l3 c3):=fun wg h => (HBK.out wg h).at3;clear hW0e;refine wpR_take (belowOrd z) (i:=0) (v:=?vf7) rfl (by kernel_rfl) (by kernel_rfl) (by kernel_rfl) (fun _ _ _ h => h) (by rfl) ?hf7 ?rf7
   case hf7 => (intro wg hSw;go_simp <;> with_reducible rfl)
   simp only [Act.put,List.setIfInBounds_toArray,List.set_cons_zero,List.set_cons_succ];refine wpR_take (belowOrd z) (i:=1) (v:=?vf8) rfl (by kernel_rfl) (by kernel_rfl) (by kernel_rfl) (fun _ _ _ h => h) (by rfl) ?hf8 ?rf8
   case hf8 => (intro wg hSw;go_simp <;> with_reducible rfl)
   simp only [Act.put,List.setIfInBounds_toArray,List.set_cons_zero,List.set_cons_succ];refine wpR_take (belowOrd z) (i:=2) (v:=?vf9) rfl (by kernel_rfl) (by kernel_rfl) (by kernel_rfl) (fun _ _ _ h => h) (by rfl) ?hf9 ?rf9
   case hf9 => (intro wg hSw;go_simp <;> with_reducible rfl)
   simp only [Act.put,List.setIfInBounds_toArray,List.set_cons_zero,List.set_cons_succ];refine wpR_take (belowOrd z) (i:=3) (v:=?vf10) rfl (by kernel_rfl) (by kernel_rfl) (by kernel_rfl) (fun _ _ _ h => h) (by rfl) ?hf10 ?rf10
   case hf10 => (intro wg hSw;go_simp <;> with_reducible rfl)
   simp only [Act.put,List.setIfInBounds_toArray,List.set_cons_zero,List.set_cons_succ];refine wpR_take (belowOrd z) (i:=4) (v:=?vf11) rfl (by kernel_rfl) (by kernel_rfl) (by kernel_rfl) (fun _ _ _ h => h) (by rfl) ?hf11 ?rf11
   case hf11 => (intro wg hSw;go_simp <;> with_reducible rfl)
   simp only [Act.put,List.setIfInBounds_toArray,List.set_cons_zero,List.set_cons_succ];refine wpR_two (i:=5) (j:=9) (by kernel_rfl) ?_ ?_
   ·refine wpR_op (i:=5) rfl (by rfl) (fun K hK => ?_)
    go_simp;obtain ⟨zc,hzc⟩:∃ zc,(W0).heap.size = zc:=⟨_,rfl⟩;have HZC:=Hh hzc;have HZL:Hid (z ≤ zc):=Hh (by rw [← HZ0.out,← hzc];exact ((((belowOrd z)).refl W0)).size)
    refine (HFW.out (fun b => ¬ b = g ∧ (b < z ∨ zc ≤ b)) AK 0 (cap - (m + 1)) W0 rfl (fun b hb => ⟨by have h1:=HR3.out.lt;have h2:=HZW.out;have h3:=HZL.out;omega,.inr (by omega)⟩) (((HD3.out.lt.keep (T':=fun b => ¬ b = g ∧ (b < z ∨ zc ≤ b)) (w':=wM3) (fun b hb => ⟨⟨hb.1,.inl (by have h1:=hb.2;have h2:=HZW.out;omega)⟩,rfl⟩)).grow HGW0.out).grow (grow_z HZ0.out (((belowOrd z)).refl W0))) (HKK.out _ (HGW0.out.trans (grow_z HZ0.out (((belowOrd z)).refl W0))))).mono ?_
    clear hzc;rintro x wM5 ⟨hN5,v,rfl,B1,e1,B2,e2,B3,e3,rfl,m1,m2,m3⟩;have hM5:Below z W0 wM5:=Below.mono hN5 (by rw [HZC.out];exact HZL.out)
    have hC5:NdT (fun b => (¬ b = g ∧ (b < z ∨ zc ≤ b)) ∧ b < wM5.heap.size) wM5 B1 B2 B3 q:=NdT.lt ⟨m1,m2,m3⟩;obtain ⟨q1,hq1⟩:∃ q1,q.shp.length = q1:=⟨_,rfl⟩;obtain ⟨q2,hq2⟩:∃ q2,q.ints.length = q2:=⟨_,rfl⟩;obtain ⟨q3,hq3⟩:∃ q3,q.decs.length = q3:=⟨_,rfl⟩;have HQ1:=Hh hq1;have HQ2:=Hh hq2;have HQ3:=Hh hq3;rw [hq1,hq2,hq3];clear hq1 hq2 hq3 m1 m2 m3;refine hK.out _ _ hM5 ?_;clear hK K
    try simp only [Act.put,List.setIfInBounds_toArray,List.set_cons_zero,List.set_cons_succ]
    refine wpR_take (belowOrd z) (i:=6) (v:=?vf12) rfl (by kernel_rfl) (by kernel_rfl) (by kernel_rfl) (fun _ _ _ h => h) (by rfl) ?hf12 ?rf12
    case hf12 => (intro wg hSw;go_simp <;> with_reducible rfl)
    simp only [Act.put,List.setIfInBounds_toArray,List.set_cons_zero,List.set_cons_succ];refine wpR_take (belowOrd z) (i:=7) (v:=?vf13) rfl (by kernel_rfl) (by kernel_rfl) (by kernel_rfl) (fun _ _ _ h => h) (by rfl) ?hf13 ?rf13
    case hf13 => (intro wg hSw;go_simp <;> with_reducible rfl)
    simp only [Act.put,List.setIfInBounds_toArray,List.set_cons_zero,List.set_cons_succ];refine wpR_take (belowOrd z) (i:=8) (v:=?vf14) rfl (by kernel_rfl) (by kernel_rfl) (by kernel_rfl) (fun _ _ _ h => h) (by rfl) ?hf14 ?rf14
    case hf14 => (intro wg hSw;go_simp <;> with_reducible rfl)
    simp only [Act.put,List.setIfInBounds_toArray,List.set_cons_zero,List.set_cons_succ];refine wpR_one (i:=9) (by kernel_rfl) ?_
    refine wpR_op (i:=9) rfl (by rfl) (fun K hK => ?_)
    go_simp;refine hK.out _ _ (Below.mono (grow_new _ _) (by rw [← HZ0.out];exact ((((belowOrd z)).trans (((belowOrd z)).refl W0) hM5)).size)) ?_
    clear hK K
    try simp only [Act.put,List.setIfInBounds_toArray,List.set_cons_zero,List.set_cons_succ]
    obtain ⟨tb,htb⟩:∃ tb,(wM5).heap.size = tb:=⟨_,rfl⟩;have HTB:=Hh htb;have hbs:=boxN_new wM5 0 none 0 0 none 0 0 none 0 0;have hgs:=grow_new wM5 (.cells #[.int .i64 0,.slice none 0 0,.slice none 0 0,.slice none 0 0] 34);have hsz:(World.alloc wM5 (.cells #[.int .i64 0,.slice none 0 0,.slice none 0 0,.slice none 0 0] 34)).heap.size = tb + 1:=by rw [← htb];simp
    rw [htb] at hbs ⊢;have HTL:Hid (z ≤ tb):=Hh (by rw [← HZ0.out,← htb];exact ((((belowOrd z)).trans (((belowOrd z)).refl W0) hM5)).size)
    generalize hwM9:World.alloc wM5 (.cells #[.int .i64 0,.slice none 0 0,.slice none 0 0,.slice none 0 0] 34) = wM9 at *;have hC9:BoxN wM9 tb 0 none 0 0 none 0 0 none 0 0:=hbs;have hN9:Grow wM5 wM9:=hgs;have hM9:Below z wM5 wM9:=Below.mono hgs (by rw [← HZ0.out];exact ((((belowOrd z)).trans (((belowOrd z)).refl W0) hM5)).size)
    have HZ9:=Hh hsz;clear hwM9 htb hbs hgs hsz;refine wpR_one (i:=10) (by kernel_rfl) ?_
    refine wpR_op (i:=10) rfl (by rfl) (fun K hK => ?_)
    have HBB:=Hh hC9;have f0:=HBB.out.froz 0;have f1:=HBB.out.froz 1;have f2:=HBB.out.froz 2;have f3:=HBB.out.froz 3;have d0:=HBB.out.at0;have d1:=HBB.out.at1;have d2:=HBB.out.at2;have d3:=HBB.out.at3;have hGG:=grow_z HZ0.out (((belowOrd z)).trans (((belowOrd z)).trans (((belowOrd z)).refl W0) hM5) hM9);go_simp;refine hK.out _ _ (below_put4 HTL.out _ _ _ _) ?_;clear hK K
    try simp only [Act.put,List.setIfInBounds_toArray,List.set_cons_zero,List.set_cons_succ]
    have HB10':=Hh (HBB.out.store q.kind B1 B2 B3 q1 e1 q2 e2 q3 e3);have HG10':Hid (Grow W0 ((((World.setCell wM9 ⟨tb,0,none⟩ (.int .i64 q.kind)).setCell ⟨tb,1,none⟩ (.slice B1 q1 e1)).setCell ⟨tb,2,none⟩ (.slice B2 q2 e2)).setCell ⟨tb,3,none⟩ (.slice B3 q3 e3))):=Hh (grow_z HZ0.out (Below.trans (((belowOrd z)).trans (((belowOrd z)).trans (((belowOrd z)).refl W0) hM5) hM9) (below_put4 HTL.out _ _ _ _)));have hM10':=below_put4 (w:=wM9) HTL.out (.int .i64 q.kind) (.slice B1 q1 e1) (.slice B2 q2 e2) (.slice B3 q3 e3);have HD10':Hid (NdT (fun b => ¬ b = g) ((((World.setCell wM9 ⟨tb,0,none⟩ (.int .i64 q.kind)).setCell ⟨tb,1,none⟩ (.slice B1 q1 e1)).setCell ⟨tb,2,none⟩ (.slice B2 q2 e2)).setCell ⟨tb,3,none⟩ (.slice B3 q3 e3)) B1 B2 B3 q):=Hh (((hC5.grow hN9)).keep fun b hb => ⟨hb.1.1,other4 (by have h1:=hb.1.2;have h2:=hb.2;have h3:=HZ0.out;have h4:=HTB.out;have h5:=HZ9.out;have h6:=HZC.out;omega) _ _ _ _⟩)
    clear f0 f1 f2 f3 d0 d1 d2 d3 hGG;generalize hw10:World.setCell (World.setCell (World.setCell (World.setCell wM9 ⟨tb,0,none⟩ (.int .i64 q.kind)) ⟨tb,1,none⟩ (.slice B1 q1 e1)) ⟨tb,2,none⟩ (.slice B2 q2 e2)) ⟨tb,3,none⟩ (.slice B3 q3 e3) = wM10 at *;have hM10:=hM10';clear hw10 hM10';refine wpR_take (belowOrd z) (i:=11) (v:=?vf15) rfl (by kernel_rfl) (by kernel_rfl) (by kernel_rfl) (fun _ _ _ h => h) (by rfl) ?hf15 ?rf15
    case hf15 => (intro wg hSw;go_simp <;> with_reducible rfl)
    simp only [Act.put,List.setIfInBounds_toArray,List.set_cons_zero,List.set_cons_succ];refine wpR_done (by kernel_rfl) ?_
    have HGT:=Hh (HGW0.out.trans HG10'.out);have HRT:=Hh (HR3.out.grow HGT.out);have HNT:=Hh (HN3.out.kept (Kept.of_grow HGT.out));have HKT:=Hh (HK3.out.trans (Kept.of_grow HGT.out));clear b0 b1 b2 b3 HBK HFW HKK;have hgb2:Hid (¬ tb = g):=Hh (by have h1:=HR3.out.lt;have h2:=HZW.out;have h3:=HTL.out;omega)
    have HRK:=Hh (HRT.out.take m);rw [show (rs ++ nd :: []).take m = rs by rw [← HM.out];simp] at HRK
    have HDT:=Hh HD10'.out;have HBT:=Hh HB10'.out;clear HB10' HD10' HG10' HRT;go_wp2;refine wp_region_R ((Kept (fun k => k = g))) (n:=7) rfl (by kernel_rfl) ?_
    intro W0 hW0e hW0;have HWX:=Hh hW0;have HBX:=Hh (HBT.out.grow hW0);have HBY:Hid (∀ wg,Kept (fun k => k = g) W0 wg → BoxN wg tb q.kind B1 q1 e1 B2 q2 e2 B3 q3 e3):=Hh (fun wg h => (h.block tb HBX.out.lt hgb2.out).trans HBX.out);have x0:∀ wg,Kept (fun k => k = g) W0 wg → wg.cell? ⟨tb,0,none⟩ = some (.int .i64 q.kind):=fun wg h => (HBY.out wg h).at0;have x1:∀ wg,Kept (fun k => k = g) W0 wg → wg.cell? ⟨tb,1,none⟩ = some (.slice B1 q1 e1):=fun wg h => (HBY.out wg h).at1;have x2:∀ wg,Kept (fun k => k = g) W0 wg → wg.cell? ⟨tb,2,none⟩ = some (.slice B2 q2 e2):=fun wg h => (HBY.out wg h).at2;have x3:∀ wg,Kept (fun k => k = g) W0 wg → wg.cell? ⟨tb,3,none⟩ = some (.slice B3 q3 e3):=fun wg h => (HBY.out wg h).at3;clear hW0e;refine wpR_take (keptOrd (fun k => k = g)) (i:=0) (v:=?vf46) rfl (by kernel_rfl) (by kernel_rfl) (by kernel_rfl) (fun _ _ _ h => h) (by rfl) ?hf46 ?rf46
    case hf46 => (intro wg hSw;go_simp <;> with_reducible rfl)
    simp only [Act.put,List.setIfInBounds_toArray,List.set_cons_zero,List.set_cons_succ];refine wpR_take (keptOrd (fun k => k = g)) (i:=1) (v:=?vf47) rfl (by kernel_rfl) (by kernel_rfl) (by kernel_rfl) (fun _ _ _ h => h) (by rfl) ?hf47 ?rf47
    case hf47 => (intro wg hSw;go_simp <;> with_reducible rfl)
    simp only [Act.put,List.setIfInBounds_toArray,List.set_cons_zero,List.set_cons_succ];refine wpR_take (keptOrd (fun k => k = g)) (i:=2) (v:=?vf48) rfl (by kernel_rfl) (by kernel_rfl) (by kernel_rfl) (fun _ _ _ h => h) (by rfl) ?hf48 ?rf48
    case hf48 => (intro wg hSw;go_simp <;> with_reducible rfl)
    simp only [Act.put,List.setIfInBounds_toArray,List.set_cons_zero,List.set_cons_succ];refine wpR_take (keptOrd (fun k => k = g)) (i:=3) (v:=?vf49) rfl (by kernel_rfl) (by kernel_rfl) (by kernel_rfl) (fun _ _ _ h => h) (by rfl) ?hf49 ?rf49
    case hf49 => (intro wg hSw;go_simp <;> with_reducible rfl)
    simp only [Act.put,List.setIfInBounds_toArray,List.set_cons_zero,List.set_cons_succ];refine wpR_one (i:=4) (by kernel_rfl) ?_
    refine wpR_op (i:=4) rfl (by rfl) (fun K hK => ?_)
    go_simp;refine hK.out _ _ (Kept.of_grow (grow_new _ _)) ?_;clear hK K
    try simp only [Act.put,List.setIfInBounds_toArray,List.set_cons_zero,List.set_cons_succ]
    obtain ⟨sy,hsy⟩:∃ sy,(W0).heap.size = sy:=⟨_,rfl⟩;have hbs:=boxN_new W0 q.kind B1 q1 e1 B2 q2 e2 B3 q3 e3;have hgs:=grow_new W0 (.cells #[.int .i64 q.kind,.slice B1 q1 e1,.slice B2 q2 e2,.slice B3 q3 e3] 34);rw [hsy] at hbs ⊢;generalize hwM4:World.alloc W0 (Obj.cells #[.int .i64 q.kind,.slice B1 q1 e1,.slice B2 q2 e2,.slice B3 q3 e3] 34) = wM4 at *;have HBS:=Hh hbs;have HGS2:=Hh (HWX.out.trans hgs);have hM4:Kept (fun k => k = g) W0 wM4:=Kept.of_grow hgs;clear hwM4 hsy hbs hgs;refine wpR_one (i:=5) (by kernel_rfl) ?_
    refine wpR_op (i:=5) rfl (by rfl) (fun K hK => ?_)
    refine wp_push _ _ rfl g cap m rs q sy B1 B2 B3 q1 e1 q2 e2 q3 e3 rfl rfl (HRK.out.grow HGS2.out) HM.out (by omega) HBS.out HQ1.out HQ2.out HQ3.out (HDT.out.grow HGS2.out).1 (HDT.out.grow HGS2.out).2.1 (HDT.out.grow HGS2.out).2.2 ?_
    intro wM5 hr5 hM5;refine hK.out _ _ hM5 ?_;clear hK K
    try simp only [Act.put,List.setIfInBounds_toArray,List.set_cons_zero,List.set_cons_succ]
    have HR5:=Hh hr5;have HK5:=Hh ((Kept.of_grow HGS2.out).trans hM5);clear hr5;refine wpR_take (keptOrd (fun k => k = g)) (i:=6) (v:=?vf50) rfl (by kernel_rfl) (by kernel_rfl) (by kernel_rfl) (fun _ _ _ h => h) (by rfl) ?hf50 ?rf50
    case hf50 => (intro wg hSw;go_simp <;> with_reducible rfl)
    simp only [Act.put,List.setIfInBounds_toArray,List.set_cons_zero,List.set_cons_succ];refine wpR_done (by kernel_rfl) ?_
    clear x0 x1 x2 x3;have HNU:=Hh (HNT.out.kept HK5.out);have HKU:=Hh (HKT.out.trans HK5.out);go_wp2;go_ret2;exact ⟨_,_,_,_,rfl,by rw [HFO.out,HCL.out];simp only [List.length_append,List.length_cons,List.length_nil,HM.out],by rw [HDR.out,List.length_drop,HNL.out];rfl,Nat.le_sub_of_add_le hnc,by rw [HFO.out,HCL.out];exact HR5.out,by rw [HDR.out];exact HNU.out,HKU.out⟩
   ·refine wpR_op (i:=9) rfl (by rfl) (fun K hK => ?_)
    go_simp;refine hK.out _ _ (Below.mono (grow_new _ _) (by rw [← HZ0.out];exact ((((belowOrd z)).refl W0)).size)) ?_
    clear hK K
    try simp only [Act.put,List.setIfInBounds_toArray,List.set_cons_zero,List.set_cons_succ]
    obtain ⟨tb,htb⟩:∃ tb,(W0).heap.size = tb:=⟨_,rfl⟩;have HTB:=Hh htb;have hbs:=boxN_new W0 0 none 0 0 none 0 0 none 0 0;have hgs:=grow_new W0 (.cells #[.int .i64 0,.slice none 0 0,.slice none 0 0,.slice none 0 0] 34);have hsz:(World.alloc W0 (.cells #[.int .i64 0,.slice none 0 0,.slice none 0 0,.slice none 0 0] 34)).heap.size = tb + 1:=by rw [← htb];simp
    rw [htb] at hbs ⊢;have HTL:Hid (z ≤ tb):=Hh (by rw [← HZ0.out,← htb];exact ((((belowOrd z)).refl W0)).size)
    generalize hwM9:World.alloc W0 (.cells #[.int .i64 0,.slice none 0 0,.slice none 0 0,.slice none 0 0] 34) = wM9 at *;have hC9:BoxN wM9 tb 0 none 0 0 none 0 0 none 0 0:=hbs;have hN9:Grow W0 wM9:=hgs;have hM9:Below z W0 wM9:=Below.mono hgs (by rw [← HZ0.out];exact ((((belowOrd z)).refl W0)).size)
    have HZ9:=Hh hsz;clear hwM9 htb hbs hgs hsz;refine wpR_one (i:=5) (by kernel_rfl) ?_
    refine wpR_op (i:=5) rfl (by rfl) (fun K hK => ?_)
    go_simp;obtain ⟨zc,hzc⟩:∃ zc,(wM9).heap.size = zc:=⟨_,rfl⟩;have HZC:=Hh hzc;have HZL:Hid (z ≤ zc):=Hh (by rw [← HZ0.out,← hzc];exact ((((belowOrd z)).trans (((belowOrd z)).refl W0) hM9)).size)
    refine (HFW.out (fun b => ¬ b = g ∧ (b < z ∨ zc ≤ b)) AK 0 (cap - (m + 1)) wM9 rfl (fun b hb => ⟨by have h1:=HR3.out.lt;have h2:=HZW.out;have h3:=HZL.out;omega,.inr (by omega)⟩) (((HD3.out.lt.keep (T':=fun b => ¬ b = g ∧ (b < z ∨ zc ≤ b)) (w':=wM3) (fun b hb => ⟨⟨hb.1,.inl (by have h1:=hb.2;have h2:=HZW.out;omega)⟩,rfl⟩)).grow HGW0.out).grow (grow_z HZ0.out (((belowOrd z)).trans (((belowOrd z)).refl W0) hM9))) (HKK.out _ (HGW0.out.trans (grow_z HZ0.out (((belowOrd z)).trans (((belowOrd z)).refl W0) hM9))))).mono ?_
    clear hzc;rintro x wM5 ⟨hN5,v,rfl,B1,e1,B2,e2,B3,e3,rfl,m1,m2,m3⟩;have hM5:Below z wM9 wM5:=Below.mono hN5 (by rw [HZC.out];exact HZL.out)
    have hC5:NdT (fun b => (¬ b = g ∧ (b < z ∨ zc ≤ b)) ∧ b < wM5.heap.size) wM5 B1 B2 B3 q:=NdT.lt ⟨m1,m2,m3⟩;obtain ⟨q1,hq1⟩:∃ q1,q.shp.length = q1:=⟨_,rfl⟩;obtain ⟨q2,hq2⟩:∃ q2,q.ints.length = q2:=⟨_,rfl⟩;obtain ⟨q3,hq3⟩:∃ q3,q.decs.length = q3:=⟨_,rfl⟩;have HQ1:=Hh hq1;have HQ2:=Hh hq2;have HQ3:=Hh hq3;rw [hq1,hq2,hq3];clear hq1 hq2 hq3 m1 m2 m3;refine hK.out _ _ hM5 ?_;clear hK K
    try simp only [Act.put,List.setIfInBounds_toArray,List.set_cons_zero,List.set_cons_succ]
    refine wpR_take (belowOrd z) (i:=6) (v:=?vf16) rfl (by kernel_rfl) (by kernel_rfl) (by kernel_rfl) (fun _ _ _ h => h) (by rfl) ?hf16 ?rf16
    case hf16 => (intro wg hSw;go_simp <;> with_reducible rfl)
    simp only [Act.put,List.setIfInBounds_toArray,List.set_cons_zero,List.set_cons_succ];refine wpR_take (belowOrd z) (i:=7) (v:=?vf17) rfl (by kernel_rfl) (by kernel_rfl) (by kernel_rfl) (fun _ _ _ h => h) (by rfl) ?hf17 ?rf17
    case hf17 => (intro wg hSw;go_simp <;> with_reducible rfl)
    simp only [Act.put,List.setIfInBounds_toArray,List.set_cons_zero,List.set_cons_succ];refine wpR_take (belowOrd z) (i:=8) (v:=?vf18) rfl (by kernel_rfl) (by kernel_rfl) (by kernel_rfl) (fun _ _ _ h => h) (by rfl) ?hf18 ?rf18
    case hf18 => (intro wg hSw;go_simp <;> with_reducible rfl)
    simp only [Act.put,List.setIfInBounds_toArray,List.set_cons_zero,List.set_cons_succ];refine wpR_one (i:=10) (by kernel_rfl) ?_
    refine wpR_op (i:=10) rfl (by rfl) (fun K hK => ?_)
    have HBB:=Hh (hC9.grow hN5);have f0:=HBB.out.froz 0;have f1:=HBB.out.froz 1;have f2:=HBB.out.froz 2;have f3:=HBB.out.froz 3;have d0:=HBB.out.at0;have d1:=HBB.out.at1;have d2:=HBB.out.at2;have d3:=HBB.out.at3;have hGG:=grow_z HZ0.out (((belowOrd z)).trans (((belowOrd z)).trans (((belowOrd z)).refl W0) hM9) hM5);go_simp;refine hK.out _ _ (below_put4 HTL.out _ _ _ _) ?_;clear hK K
    try simp only [Act.put,List.setIfInBounds_toArray,List.set_cons_zero,List.set_cons_succ]
    have HB10':=Hh (HBB.out.store q.kind B1 B2 B3 q1 e1 q2 e2 q3 e3);have HG10':Hid (Grow W0 ((((World.setCell wM5 ⟨tb,0,none⟩ (.int .i64 q.kind)).setCell ⟨tb,1,none⟩ (.slice B1 q1 e1)).setCell ⟨tb,2,none⟩ (.slice B2 q2 e2)).setCell ⟨tb,3,none⟩ (.slice B3 q3 e3))):=Hh (grow_z HZ0.out (Below.trans (((belowOrd z)).trans (((belowOrd z)).trans (((belowOrd z)).refl W0) hM9) hM5) (below_put4 HTL.out _ _ _ _)));have hM10':=below_put4 (w:=wM5) HTL.out (.int .i64 q.kind) (.slice B1 q1 e1) (.slice B2 q2 e2) (.slice B3 q3 e3);have HD10':Hid (NdT (fun b => ¬ b = g) ((((World.setCell wM5 ⟨tb,0,none⟩ (.int .i64 q.kind)).setCell ⟨tb,1,none⟩ (.slice B1 q1 e1)).setCell ⟨tb,2,none⟩ (.slice B2 q2 e2)).setCell ⟨tb,3,none⟩ (.slice B3 q3 e3)) B1 B2 B3 q):=Hh ((hC5).keep fun b hb => ⟨hb.1.1,other4 (by have h1:=hb.1.2;have h2:=hb.2;have h3:=HZ0.out;have h4:=HTB.out;have h5:=HZ9.out;have h6:=HZC.out;omega) _ _ _ _⟩)
    clear f0 f1 f2 f3 d0 d1 d2 d3 hGG;generalize hw10:World.setCell (World.setCell (World.setCell (World.setCell wM5 ⟨tb,0,none⟩ (.int .i64 q.kind)) ⟨tb,1,none⟩ (.slice B1 q1 e1)) ⟨tb,2,none⟩ (.slice B2 q2 e2)) ⟨tb,3,none⟩ (.slice B3 q3 e3) = wM10 at *;have hM10:=hM10';clear hw10 hM10';refine wpR_take (belowOrd z) (i:=11) (v:=?vf19) rfl (by kernel_rfl) (by kernel_rfl) (by kernel_rfl) (fun _ _ _ h => h) (by rfl) ?hf19 ?rf19
    case hf19 => (intro wg hSw;go_simp <;> with_reducible rfl)
    simp only [Act.put,List.setIfInBounds_toArray,List.set_cons_zero,List.set_cons_succ];refine wpR_done (by kernel_rfl) ?_
    have HGT:=Hh (HGW0.out.trans HG10'.out);have HRT:=Hh (HR3.out.grow HGT.out);have HNT:=Hh (HN3.out.kept (Kept.of_grow HGT.out));have HKT:=Hh (HK3.out.trans (Kept.of_grow HGT.out));clear b0 b1 b2 b3 HBK HFW HKK;have hgb2:Hid (¬ tb = g):=Hh (by have h1:=HR3.out.lt;have h2:=HZW.out;have h3:=HTL.out;omega)
    have HRK:=Hh (HRT.out.take m);rw [show (rs ++ nd :: []).take m = rs by rw [← HM.out];simp] at HRK
    have HDT:=Hh HD10'.out;have HBT:=Hh HB10'.out;clear HB10' HD10' HG10' HRT;go_wp2;refine wp_region_R ((Kept (fun k => k = g))) (n:=7) rfl (by kernel_rfl) ?_
    intro W0 hW0e hW0;have HWX:=Hh hW0;have HBX:=Hh (HBT.out.grow hW0);have HBY:Hid (∀ wg,Kept (fun k => k = g) W0 wg → BoxN wg tb q.kind B1 q1 e1 B2 q2 e2 B3 q3 e3):=Hh (fun wg h => (h.block tb HBX.out.lt hgb2.out).trans HBX.out);have x0:∀ wg,Kept (fun k => k = g) W0 wg → wg.cell? ⟨tb,0,none⟩ = some (.int .i64 q.kind):=fun wg h => (HBY.out wg h).at0;have x1:∀ wg,Kept (fun k => k = g) W0 wg → wg.cell? ⟨tb,1,none⟩ = some (.slice B1 q1 e1):=fun wg h => (HBY.out wg h).at1;have x2:∀ wg,Kept (fun k => k = g) W0 wg → wg.cell? ⟨tb,2,none⟩ = some (.slice B2 q2 e2):=fun wg h => (HBY.out wg h).at2;have x3:∀ wg,Kept (fun k => k = g) W0 wg → wg.cell? ⟨tb,3,none⟩ = some (.slice B3 q3 e3):=fun wg h => (HBY.out wg h).at3;clear hW0e;refine wpR_take (keptOrd (fun k => k = g)) (i:=0) (v:=?vf51) rfl (by kernel_rfl) (by kernel_rfl) (by kernel_rfl) (fun _ _ _ h => h) (by rfl) ?hf51 ?rf51
    case hf51 => (intro wg hSw;go_simp <;> with_reducible rfl)
    simp only [Act.put,List.setIfInBounds_toArray,List.set_cons_zero,List.set_cons_succ];refine wpR_take (keptOrd (fun k => k = g)) (i:=1) (v:=?vf52) rfl (by kernel_rfl) (by kernel_rfl) (by kernel_rfl) (fun _ _ _ h => h) (by rfl) ?hf52 ?rf52
    case hf52 => (intro wg hSw;go_simp <;> with_reducible rfl)
    simp only [Act.put,List.setIfInBounds_toArray,List.set_cons_zero,List.set_cons_succ];refine wpR_take (keptOrd (fun k => k = g)) (i:=2) (v:=?vf53) rfl (by kernel_rfl) (by kernel_rfl) (by kernel_rfl) (fun _ _ _ h => h) (by rfl) ?hf53 ?rf53
    case hf53 => (intro wg hSw;go_simp <;> with_reducible rfl)
    simp only [Act.put,List.setIfInBounds_toArray,List.set_cons_zero,List.set_cons_succ];refine wpR_take (keptOrd (fun k => k = g)) (i:=3) (v:=?vf54) rfl (by kernel_rfl) (by kernel_rfl) (by kernel_rfl) (fun _ _ _ h => h) (by rfl) ?hf54 ?rf54
    case hf54 => (intro wg hSw;go_simp <;> with_reducible rfl)
    simp only [Act.put,List.setIfInBounds_toArray,List.set_cons_zero,List.set_cons_succ];refine wpR_one (i:=4) (by kernel_rfl) ?_
    refine wpR_op (i:=4) rfl (by rfl) (fun K hK => ?_)
    go_simp;refine hK.out _ _ (Kept.of_grow (grow_new _ _)) ?_;clear hK K
    try simp only [Act.put,List.setIfInBounds_toArray,List.set_cons_zero,List.set_cons_succ]
    obtain ⟨sy,hsy⟩:∃ sy,(W0).heap.size = sy:=⟨_,rfl⟩;have hbs:=boxN_new W0 q.kind B1 q1 e1 B2 q2 e2 B3 q3 e3;have hgs:=grow_new W0 (.cells #[.int .i64 q.kind,.slice B1 q1 e1,.slice B2 q2 e2,.slice B3 q3 e3] 34);rw [hsy] at hbs ⊢;generalize hwM4:World.alloc W0 (Obj.cells #[.int .i64 q.kind,.slice B1 q1 e1,.slice B2 q2 e2,.slice B3 q3 e3] 34) = wM4 at *;have HBS:=Hh hbs;have HGS2:=Hh (HWX.out.trans hgs);have hM4:Kept (fun k => k = g) W0 wM4:=Kept.of_grow hgs;clear hwM4 hsy hbs hgs;refine wpR_one (i:=5) (by kernel_rfl) ?_
    refine wpR_op (i:=5) rfl (by rfl) (fun K hK => ?_)
    refine wp_push _ _ rfl g cap m rs q sy B1 B2 B3 q1 e1 q2 e2 q3 e3 rfl rfl (HRK.out.grow HGS2.out) HM.out (by omega) HBS.out HQ1.out HQ2.out HQ3.out (HDT.out.grow HGS2.out).1 (HDT.out.grow HGS2.out).2.1 (HDT.out.grow HGS2.out).2.2 ?_
    intro wM5 hr5 hM5;refine hK.out _ _ hM5 ?_;clear hK K
    try simp only [Act.put,List.setIfInBounds_toArray,List.set_cons_zero,List.set_cons_succ]
    have HR5:=Hh hr5;have HK5:=Hh ((Kept.of_grow HGS2.out).trans hM5);clear hr5;refine wpR_take (keptOrd (fun k => k = g)) (i:=6) (v:=?vf55) rfl (by kernel_rfl) (by kernel_rfl) (by kernel_rfl) (fun _ _ _ h => h) (by rfl) ?hf55 ?rf55
    case hf55 => (intro wg hSw;go_simp <;> with_reducible rfl)
    simp only [Act.put,List.setIfInBounds_toArray,List.set_cons_zero,List.set_cons_succ];refine wpR_done (by kernel_rfl) ?_
    clear x0 x1 x2 x3;have HNU:=Hh (HNT.out.kept HK5.out);have HKU:=Hh (HKT.out.trans HK5.out);go_wp2;go_ret2;exact ⟨_,_,_,_,rfl,by rw [HFO.out,HCL.out];simp only [List.length_append,List.length_cons,List.length_nil,HM.out],by rw [HDR.out,List.length_drop,HNL.out];rfl,Nat.le_sub_of_add_le hnc,by rw [HFO.out,HCL.out];exact HR5.out,by rw [HDR.out];exact HNU.out,HKU.out⟩
  ·have hk5':(kd == 5) = true:=by simpa using hk5
   have HKC:Hid (kc nd = cnt nd.shp):=Hh (by unfold kc;rw [HKD.out];exact if_pos hk5)
   clear hk5;obtain ⟨ι,hι⟩:∃ ι,cnt nd.shp = ι:=⟨_,rfl⟩;have HPI:Hid (parK (par e) ι l' = some t):=Hh (by rw [← hι,← HKC.out];exact HPK.out)
   have HCI:Hid (catF (par e) (formF e) (kc nd) l' = catF (par e) (formF e) ι l'):=Hh (by rw [HKC.out,hι])
   have HSI:Hid (t.i + ι ≤ 1099999):=Hh (by rw [← hι];exact hsi)
   have hιb:ι ≤ 1048576:=hι ▸ cnt_le1 _;have b1:=HB3.out.at1;have HCN:=Hh (count_any A1 l1 c1 nd.shp wM3 HL1.out (by omega) HD3.out.1.nums)
   rw [hι] at HCN;clear hι;go_wp2_with fail;refine (HCN.out).mono ?_;rintro x w4 ⟨rfl,rfl⟩;clear b0 b1 HCN;go_wp2
   go_loopg [4,5,33] ι (fun gk s4 s5 s33 wr => ∃ (j f qn cl:Nat) (u:St) (AL':Option Addr) (F:List Nd),j ≤ ι ∧ gk = ι - j ∧ s33 = .int .i64 (j:Nat) ∧ s4 = .slice (some ⟨g,0,none⟩) (m + 1 + f) cap ∧ s5 = .slice AL' qn cl ∧ qn ≤ cl ∧ Hid (parK (par e) j l' = some u) ∧ Hid (F = catF (par e) (formF e) j l') ∧
    Hid (F.length = f) ∧ Hid (qn + u.n = nl) ∧ Hid (RowC wr g cap (rs ++ nd :: F)) ∧ Hid (NodesT (fun b => ¬ b = g) wr AL' (l'.drop u.n)) ∧ Hid (Kept (fun k => k = g) w wr) ∧ Hid (BoxN wr nb kd A1 l1 c1 A2 l2 c2 A3 l3 c3))
   case atStart =>
    exact ⟨0,0,nl,c - 1,st0,AL,[],Nat.zero_le _,rfl,rfl,rfl,rfl,Nat.le_sub_of_add_le hnc,Hh rfl,Hh rfl,Hh rfl,Hh rfl,Hh HR3.out,Hh HN3.out,HK3,HB3⟩
   case round =>
    obtain ⟨j,f,qn,cl,u,AL',F,hj,rfl,rfl,rfl,rfl,hqc,HPJ,HF,HFN,HQN,HRJ,HNJ,HKJ,HBJ⟩:=hrel;obtain ⟨a2,ha2,hun,hui,_⟩:=parK_to HPI.out j hj;rw [HPJ.out] at ha2
    cases ha2
    have HGOOD:=Hh (tot_form HPJ.out HFL.out (by have:=HSI.out;omega))
    rw [← HF.out] at HGOOD;have hfu:f ≤ u.n:=by rw [← HFN.out];exact HGOOD.out.2.1
    have hqn:=HQN.out
    by_cases hjl:j < ι
    ·have hji:((j:Nat):Int) < ((ι:Nat):Int):=by omega
     obtain ⟨a',ha',_,haI,_⟩:=parK_to HPI.out (j + 1) hjl;obtain ⟨x,y,hx,hy,rfl⟩:=parK_some ha';rw [HPJ.out] at hx
     cases hx
     have hyi:y.i ≤ 1099999:=by have:=HSI.out;simp only [St.plus] at haI;omega
     have hyn:=(par_len hy).2.1;rw [List.length_drop,HNL.out] at hyn;have HC:=Hh (IH.out g cap (m + 1 + f) (rs ++ nd :: F) AL' qn cl (l'.drop u.n) y wr hy hyi (HFL.out.drop _) hcap (by simp only [List.length_append,List.length_cons,HM.out,HFN.out];omega) (by rw [List.length_drop,HNL.out];omega) (by omega) hqc HRJ.out HNJ.out)
     have HA:=Hh ha';have HCS:=Hh (catF_succ (f:=formF e) HPJ.out);clear ha' hy haI;generalize formF e (l'.drop u.n) = G at *;go_wp2_with fail;refine (HC.out).mono ?_;rintro z w5 ⟨r,A',q',c',rfl,hr,hq,hqc',hrow',hns',hk'⟩;obtain ⟨f',hf'⟩:∃ f',f + G.length = f':=⟨_,rfl⟩;have hrf:r = m + 1 + f':=by
      rw [← hr];simp only [List.length_append,List.length_cons,HM.out,HFN.out];omega
     subst hrf;rw [List.length_drop,List.length_drop,HNL.out] at hq;have HRW:=Hh hrow';have HNS:=Hh hns';have HKW:=Hh (HKJ.out.trans hk');have HBW:=Hh ((hk'.block nb HBJ.out.lt hgb.out).trans HBJ.out);have HFF:=Hh hf';have HQQ:Hid (q' + (u.plus y).n = nl):=Hh (by simp only [St.plus];omega)
     clear hrow' hns' hk' HC hr hf' hq;go_wp2;go_roundg (ι - (j + 1))
     case rel =>
      exact ⟨j + 1,f',q',c',u.plus y,A',F ++ G,by omega,rfl,by go_num,rfl,rfl,hqc',HA,Hh (by rw [HCS.out,← HF.out]),Hh (by rw [List.length_append,HFN.out,HFF.out]),HQQ,
       Hh (by have h:=HRW.out;rw [List.append_assoc,List.cons_append] at h;exact h),Hh (by have h:=HNS.out;rw [List.drop_drop] at h;exact h),HKW,HBW⟩
     case measure => omega
    ·obtain rfl:ι = j:=by omega
     have hjj:¬ ((ι:Nat):Int) < ((ι:Nat):Int):=by omega
     have hut:u = t:=by
      have:=HPI.out;rw [HPJ.out] at this
      cases this
      rfl
     subst hut;have HCF:Hid (catF (par e) (formF e) (kc nd) l' = F):=Hh (by rw [HCI.out,HF.out])
     have HDJ:=Hh (HND.out.kept HKJ.out);obtain ⟨o,ho⟩:∃ o,foldO nd F = o:=⟨_,rfl⟩;have HFQ:=Hh ho;clear ho
     cases o with
     | none =>
      have HCL:Hid (clos nd (catF (par e) (formF e) (kc nd) l') = nd :: F):=Hh (by rw [HCF.out];unfold clos;rw [HFQ.out])
      have hwm:IntKind.i64.wrap (((m:Nat):Int) + 1) = ((m:Nat):Int) + 1:=by rw [IntKind.wrap_i64];omega
      have hsk:∀ W:World,(Instr.slice 22 (.slice (some ⟨g,0,none⟩) (m + 1 + f) cap) (some (.int .i64 (((m:Nat):Int) + 1))) none none).run Tryz.prog W = .ok (.slice (cutA (some ⟨g,0,none⟩) cap (m + 1)) f (cap - (m + 1))) W:=fun W => by
       have h:=run_cut_lo (some ⟨g,0,none⟩) (m + 1 + f) cap (m + 1) (by omega) W
       rw [Int.natCast_add] at h;rw [show (m + 1 + f) - (m + 1) = f by omega] at h
       exact h
      have hsh:∀ W:World,(Instr.slice 22 (.slice (some ⟨g,0,none⟩) (m + 1 + f) cap) none (some (.int .i64 ((m:Nat):Int))) none).run Tryz.prog W = .ok (.slice (some ⟨g,0,none⟩) m cap) W:=fun W => run_cut_hi (some ⟨g,0,none⟩) (m + 1 + f) cap m (by omega) W
      have HKK:Hid (∀ wg,Grow wr wg → Nodes wg wg.heap.size (cutA (some ⟨g,0,none⟩) cap (m + 1)) F):=Hh (fun wg h => by
       have h1:=((HRJ.out.grow h).nodes).cut cap (m + 1) (HRJ.out.elim fun cur h => h.2.2.1);rw [show (rs ++ nd :: F).drop (m + 1) = F by rw [← HM.out];simp] at h1
       exact h1)
      obtain ⟨AK,hAK⟩:∃ AK,cutA (some ⟨g,0,none⟩) cap (m + 1) = AK:=⟨_,rfl⟩;rw [hAK] at hsk HKK;have HFW:=Hh (HFC.out F _ HFQ.out HGOOD.out.1 HGOOD.out.2.2);clear hAK;obtain ⟨z,hz⟩:∃ z,(wr).heap.size = z:=⟨_,rfl⟩;have HZW:=Hh hz;clear hz;go_wp2;refine wp_region_R ((Below z)) (n:=12) rfl (by kernel_rfl) ?_
      intro W0 hW0e hW0;have HGW0:=Hh hW0;have HZ0:Hid (W0.heap.size = z):=Hh (by rw [hW0e];exact HZW.out)
      have HB9:=Hh (HBJ.out.grow hW0);have HBK:Hid (∀ wg,Below z W0 wg → BoxN wg nb kd A1 l1 c1 A2 l2 c2 A3 l3 c3):=Hh (fun wg h => HB9.out.grow (grow_z HZ0.out h));have b0:∀ wg,Below z W0 wg → wg.cell? ⟨nb,0,none⟩ = some (.int .i64 kd):=fun wg h => (HBK.out wg h).at0;have b1:∀ wg,Below z W0 wg → wg.cell? ⟨nb,1,none⟩ = some (.slice A1 l1 c1):=fun wg h => (HBK.out wg h).at1;have b2:∀ wg,Below z W0 wg → wg.cell? ⟨nb,2,none⟩ = some (.slice A2 l2 c2):=fun wg h => (HBK.out wg h).at2;have b3:∀ wg,Below z W0 wg → wg.cell? ⟨nb,3,none⟩ = some (.slice A3 l3 c3):=fun wg h => (HBK.out wg h).at3;clear hW0e;refine wpR_take (belowOrd z) (i:=0) (v:=?vf20) rfl (by kernel_rfl) (by kernel_rfl) (by kernel_rfl) (fun _ _ _ h => h) (by rfl) ?hf20 ?rf20
      case hf20 => (intro wg hSw;go_simp <;> with_reducible rfl)
      simp only [Act.put,List.setIfInBounds_toArray,List.set_cons_zero,List.set_cons_succ];refine wpR_take (belowOrd z) (i:=1) (v:=?vf21) rfl (by kernel_rfl) (by kernel_rfl) (by kernel_rfl) (fun _ _ _ h => h) (by rfl) ?hf21 ?rf21
      case hf21 => (intro wg hSw;go_simp <;> with_reducible rfl)
      simp only [Act.put,List.setIfInBounds_toArray,List.set_cons_zero,List.set_cons_succ];refine wpR_take (belowOrd z) (i:=2) (v:=?vf22) rfl (by kernel_rfl) (by kernel_rfl) (by kernel_rfl) (fun _ _ _ h => h) (by rfl) ?hf22 ?rf22
      case hf22 => (intro wg hSw;go_simp <;> with_reducible rfl)
      simp only [Act.put,List.setIfInBounds_toArray,List.set_cons_zero,List.set_cons_succ];refine wpR_take (belowOrd z) (i:=3) (v:=?vf23) rfl (by kernel_rfl) (by kernel_rfl) (by kernel_rfl) (fun _ _ _ h => h) (by rfl) ?hf23 ?rf23
      case hf23 => (intro wg hSw;go_simp <;> with_reducible rfl)
      simp only [Act.put,List.setIfInBounds_toArray,List.set_cons_zero,List.set_cons_succ];refine wpR_take (belowOrd z) (i:=4) (v:=?vf24) rfl (by kernel_rfl) (by kernel_rfl) (by kernel_rfl) (fun _ _ _ h => h) (by rfl) ?hf24 ?rf24
      case hf24 => (intro wg hSw;go_simp <;> with_reducible rfl)
      simp only [Act.put,List.setIfInBounds_toArray,List.set_cons_zero,List.set_cons_succ];refine wpR_two (i:=5) (j:=9) (by kernel_rfl) ?_ ?_
      ·refine wpR_op (i:=5) rfl (by rfl) (fun K hK => ?_)
       go_simp;obtain ⟨zc,hzc⟩:∃ zc,(W0).heap.size = zc:=⟨_,rfl⟩;have HZC:=Hh hzc;have HZL:Hid (z ≤ zc):=Hh (by rw [← HZ0.out,← hzc];exact ((((belowOrd z)).refl W0)).size)
       refine (HFW.out (fun b => ¬ b = g ∧ (b < z ∨ zc ≤ b)) AK f (cap - (m + 1)) W0 HFN.out (fun b hb => ⟨by have h1:=HRJ.out.lt;have h2:=HZW.out;have h3:=HZL.out;omega,.inr (by omega)⟩) (((HDJ.out.lt.keep (T':=fun b => ¬ b = g ∧ (b < z ∨ zc ≤ b)) (w':=wr) (fun b hb => ⟨⟨hb.1,.inl (by have h1:=hb.2;have h2:=HZW.out;omega)⟩,rfl⟩)).grow HGW0.out).grow (grow_z HZ0.out (((belowOrd z)).refl W0))) (HKK.out _ (HGW0.out.trans (grow_z HZ0.out (((belowOrd z)).refl W0))))).mono ?_
       clear hzc;rintro x wM5 ⟨hN5,rfl⟩;have hM5:Below z W0 wM5:=Below.mono hN5 (by rw [HZC.out];exact HZL.out)
       refine hK.out _ _ hM5 ?_;clear hK K
       try simp only [Act.put,List.setIfInBounds_toArray,List.set_cons_zero,List.set_cons_succ]
       refine wpR_take (belowOrd z) (i:=6) (v:=?vf25) rfl (by kernel_rfl) (by kernel_rfl) (by kernel_rfl) (fun _ _ _ h => h) (by rfl) ?hf25 ?rf25
       case hf25 => (intro wg hSw;go_simp <;> with_reducible rfl)
       simp only [Act.put,List.setIfInBounds_toArray,List.set_cons_zero,List.set_cons_succ];refine wpR_take (belowOrd z) (i:=7) (v:=?vf26) rfl (by kernel_rfl) (by kernel_rfl) (by kernel_rfl) (fun _ _ _ h => h) (by rfl) ?hf26 ?rf26
       case hf26 => (intro wg hSw;go_simp <;> with_reducible rfl)
       simp only [Act.put,List.setIfInBounds_toArray,List.set_cons_zero,List.set_cons_succ];refine wpR_take (belowOrd z) (i:=8) (v:=?vf27) rfl (by kernel_rfl) (by kernel_rfl) (by kernel_rfl) (fun _ _ _ h => h) (by rfl) ?hf27 ?rf27
       case hf27 => (intro wg hSw;go_simp <;> with_reducible rfl)
       simp only [Act.put,List.setIfInBounds_toArray,List.set_cons_zero,List.set_cons_succ];refine wpR_one (i:=9) (by kernel_rfl) ?_
       refine wpR_op (i:=9) rfl (by rfl) (fun K hK => ?_)
       go_simp;refine hK.out _ _ (Below.mono (grow_new _ _) (by rw [← HZ0.out];exact ((((belowOrd z)).trans (((belowOrd z)).refl W0) hM5)).size)) ?_
       clear hK K
       try simp only [Act.put,List.setIfInBounds_toArray,List.set_cons_zero,List.set_cons_succ]
       obtain ⟨tb,htb⟩:∃ tb,(wM5).heap.size = tb:=⟨_,rfl⟩;have HTB:=Hh htb;have hbs:=boxN_new wM5 0 none 0 0 none 0 0 none 0 0;have hgs:=grow_new wM5 (.cells #[.int .i64 0,.slice none 0 0,.slice none 0 0,.slice none 0 0] 34);have hsz:(World.alloc wM5 (.cells #[.int .i64 0,.slice none 0 0,.slice none 0 0,.slice none 0 0] 34)).heap.size = tb + 1:=by rw [← htb];simp
       rw [htb] at hbs ⊢;have HTL:Hid (z ≤ tb):=Hh (by rw [← HZ0.out,← htb];exact ((((belowOrd z)).trans (((belowOrd z)).refl W0) hM5)).size)
       generalize hwM9:World.alloc wM5 (.cells #[.int .i64 0,.slice none 0 0,.slice none 0 0,.slice none 0 0] 34) = wM9 at *;have hC9:BoxN wM9 tb 0 none 0 0 none 0 0 none 0 0:=hbs;have hN9:Grow wM5 wM9:=hgs;have hM9:Below z wM5 wM9:=Below.mono hgs (by rw [← HZ0.out];exact ((((belowOrd z)).trans (((belowOrd z)).refl W0) hM5)).size)
       have HZ9:=Hh hsz;clear hwM9 htb hbs hgs hsz;refine wpR_one (i:=10) (by kernel_rfl) ?_
       refine wpR_op (i:=10) rfl (by rfl) (fun K hK => ?_)
       have HBB:=Hh hC9;have f0:=HBB.out.froz 0;have f1:=HBB.out.froz 1;have f2:=HBB.out.froz 2;have f3:=HBB.out.froz 3;have d0:=HBB.out.at0;have d1:=HBB.out.at1;have d2:=HBB.out.at2;have d3:=HBB.out.at3;have hGG:=grow_z HZ0.out (((belowOrd z)).trans (((belowOrd z)).trans (((belowOrd z)).refl W0) hM5) hM9);go_simp;refine hK.out _ _ (below_put4 HTL.out _ _ _ _) ?_;clear hK K
       try simp only [Act.put,List.setIfInBounds_toArray,List.set_cons_zero,List.set_cons_succ]
       have HB10':=Hh (HBB.out.store 0 none none none 0 0 0 0 0 0);have HG10':Hid (Grow W0 ((((World.setCell wM9 ⟨tb,0,none⟩ (.int .i64 0)).setCell ⟨tb,1,none⟩ (.slice none 0 0)).setCell ⟨tb,2,none⟩ (.slice none 0 0)).setCell ⟨tb,3,none⟩ (.slice none 0 0))):=Hh (grow_z HZ0.out (Below.trans (((belowOrd z)).trans (((belowOrd z)).trans (((belowOrd z)).refl W0) hM5) hM9) (below_put4 HTL.out _ _ _ _)));have hM10':=below_put4 (w:=wM9) HTL.out (.int .i64 0) (.slice none 0 0) (.slice none 0 0) (.slice none 0 0);clear f0 f1 f2 f3 d0 d1 d2 d3 hGG;generalize hw10:World.setCell (World.setCell (World.setCell (World.setCell wM9 ⟨tb,0,none⟩ (.int .i64 0)) ⟨tb,1,none⟩ (.slice none 0 0)) ⟨tb,2,none⟩ (.slice none 0 0)) ⟨tb,3,none⟩ (.slice none 0 0) = wM10 at *;have hM10:=hM10';clear hw10 hM10';refine wpR_take (belowOrd z) (i:=11) (v:=?vf28) rfl (by kernel_rfl) (by kernel_rfl) (by kernel_rfl) (fun _ _ _ h => h) (by rfl) ?hf28 ?rf28
       case hf28 => (intro wg hSw;go_simp <;> with_reducible rfl)
       simp only [Act.put,List.setIfInBounds_toArray,List.set_cons_zero,List.set_cons_succ];refine wpR_done (by kernel_rfl) ?_
       have HGT:=Hh (HGW0.out.trans HG10'.out);have HRT:=Hh (HRJ.out.grow HGT.out);have HNT:=Hh (HNJ.out.kept (Kept.of_grow HGT.out));have HKT:=Hh (HKJ.out.trans (Kept.of_grow HGT.out));clear b0 b1 b2 b3 HBK HFW HKK;go_wp2;go_ret2;exact ⟨_,_,_,_,rfl,by rw [HFO.out,HCL.out];simp only [List.length_append,List.length_cons,HM.out,HFN.out];omega,by rw [HDR.out,List.length_drop,HNL.out];omega,hqc,by rw [HFO.out,HCL.out];exact HRT.out,by rw [HDR.out];exact HNT.out,HKT.out⟩
      ·refine wpR_op (i:=9) rfl (by rfl) (fun K hK => ?_)
       go_simp;refine hK.out _ _ (Below.mono (grow_new _ _) (by rw [← HZ0.out];exact ((((belowOrd z)).refl W0)).size)) ?_
       clear hK K
       try simp only [Act.put,List.setIfInBounds_toArray,List.set_cons_zero,List.set_cons_succ]
       obtain ⟨tb,htb⟩:∃ tb,(W0).heap.size = tb:=⟨_,rfl⟩;have HTB:=Hh htb;have hbs:=boxN_new W0 0 none 0 0 none 0 0 none 0 0;have hgs:=grow_new W0 (.cells #[.int .i64 0,.slice none 0 0,.slice none 0 0,.slice none 0 0] 34);have hsz:(World.alloc W0 (.cells #[.int .i64 0,.slice none 0 0,.slice none 0 0,.slice none 0 0] 34)).heap.size = tb + 1:=by rw [← htb];simp
       rw [htb] at hbs ⊢;have HTL:Hid (z ≤ tb):=Hh (by rw [← HZ0.out,← htb];exact ((((belowOrd z)).refl W0)).size)
       generalize hwM9:World.alloc W0 (.cells #[.int .i64 0,.slice none 0 0,.slice none 0 0,.slice none 0 0] 34) = wM9 at *;have hC9:BoxN wM9 tb 0 none 0 0 none 0 0 none 0 0:=hbs;have hN9:Grow W0 wM9:=hgs;have hM9:Below z W0 wM9:=Below.mono hgs (by rw [← HZ0.out];exact ((((belowOrd z)).refl W0)).size)
       have HZ9:=Hh hsz;clear hwM9 htb hbs hgs hsz;refine wpR_one (i:=5) (by kernel_rfl) ?_
       refine wpR_op (i:=5) rfl (by rfl) (fun K hK => ?_)
       go_simp;obtain ⟨zc,hzc⟩:∃ zc,(wM9).heap.size = zc:=⟨_,rfl⟩;have HZC:=Hh hzc;have HZL:Hid (z ≤ zc):=Hh (by rw [← HZ0.out,← hzc];exact ((((belowOrd z)).trans (((belowOrd z)).refl W0) hM9)).size)
       refine (HFW.out (fun b => ¬ b = g ∧ (b < z ∨ zc ≤ b)) AK f (cap - (m + 1)) wM9 HFN.out (fun b hb => ⟨by have h1:=HRJ.out.lt;have h2:=HZW.out;have h3:=HZL.out;omega,.inr (by omega)⟩) (((HDJ.out.lt.keep (T':=fun b => ¬ b = g ∧ (b < z ∨ zc ≤ b)) (w':=wr) (fun b hb => ⟨⟨hb.1,.inl (by have h1:=hb.2;have h2:=HZW.out;omega)⟩,rfl⟩)).grow HGW0.out).grow (grow_z HZ0.out (((belowOrd z)).trans (((belowOrd z)).refl W0) hM9))) (HKK.out _ (HGW0.out.trans (grow_z HZ0.out (((belowOrd z)).trans (((belowOrd z)).refl W0) hM9))))).mono ?_
       clear hzc;rintro x wM5 ⟨hN5,rfl⟩;have hM5:Below z wM9 wM5:=Below.mono hN5 (by rw [HZC.out];exact HZL.out)
       refine hK.out _ _ hM5 ?_;clear hK K
       try simp only [Act.put,List.setIfInBounds_toArray,List.set_cons_zero,List.set_cons_succ]
       refine wpR_take (belowOrd z) (i:=6) (v:=?vf29) rfl (by kernel_rfl) (by kernel_rfl) (by kernel_rfl) (fun _ _ _ h => h) (by rfl) ?hf29 ?rf29
       case hf29 => (intro wg hSw;go_simp <;> with_reducible rfl)
       simp only [Act.put,List.setIfInBounds_toArray,List.set_cons_zero,List.set_cons_succ];refine wpR_take (belowOrd z) (i:=7) (v:=?vf30) rfl (by kernel_rfl) (by kernel_rfl) (by kernel_rfl) (fun _ _ _ h => h) (by rfl) ?hf30 ?rf30
       case hf30 => (intro wg hSw;go_simp <;> with_reducible rfl)
       simp only [Act.put,List.setIfInBounds_toArray,List.set_cons_zero,List.set_cons_succ];refine wpR_take (belowOrd z) (i:=8) (v:=?vf31) rfl (by kernel_rfl) (by kernel_rfl) (by kernel_rfl) (fun _ _ _ h => h) (by rfl) ?hf31 ?rf31
       case hf31 => (intro wg hSw;go_simp <;> with_reducible rfl)
       simp only [Act.put,List.setIfInBounds_toArray,List.set_cons_zero,List.set_cons_succ];refine wpR_one (i:=10) (by kernel_rfl) ?_
       refine wpR_op (i:=10) rfl (by rfl) (fun K hK => ?_)
       have HBB:=Hh (hC9.grow hN5);have f0:=HBB.out.froz 0;have f1:=HBB.out.froz 1;have f2:=HBB.out.froz 2;have f3:=HBB.out.froz 3;have d0:=HBB.out.at0;have d1:=HBB.out.at1;have d2:=HBB.out.at2;have d3:=HBB.out.at3;have hGG:=grow_z HZ0.out (((belowOrd z)).trans (((belowOrd z)).trans (((belowOrd z)).refl W0) hM9) hM5);go_simp;refine hK.out _ _ (below_put4 HTL.out _ _ _ _) ?_;clear hK K
       try simp only [Act.put,List.setIfInBounds_toArray,List.set_cons_zero,List.set_cons_succ]
       have HB10':=Hh (HBB.out.store 0 none none none 0 0 0 0 0 0);have HG10':Hid (Grow W0 ((((World.setCell wM5 ⟨tb,0,none⟩ (.int .i64 0)).setCell ⟨tb,1,none⟩ (.slice none 0 0)).setCell ⟨tb,2,none⟩ (.slice none 0 0)).setCell ⟨tb,3,none⟩ (.slice none 0 0))):=Hh (grow_z HZ0.out (Below.trans (((belowOrd z)).trans (((belowOrd z)).trans (((belowOrd z)).refl W0) hM9) hM5) (below_put4 HTL.out _ _ _ _)));have hM10':=below_put4 (w:=wM5) HTL.out (.int .i64 0) (.slice none 0 0) (.slice none 0 0) (.slice none 0 0);clear f0 f1 f2 f3 d0 d1 d2 d3 hGG;generalize hw10:World.setCell (World.setCell (World.setCell (World.setCell wM5 ⟨tb,0,none⟩ (.int .i64 0)) ⟨tb,1,none⟩ (.slice none 0 0)) ⟨tb,2,none⟩ (.slice none 0 0)) ⟨tb,3,none⟩ (.slice none 0 0) = wM10 at *;have hM10:=hM10';clear hw10 hM10';refine wpR_take (belowOrd z) (i:=11) (v:=?vf32) rfl (by kernel_rfl) (by kernel_rfl) (by kernel_rfl) (fun _ _ _ h => h) (by rfl) ?hf32 ?rf32
       case hf32 => (intro wg hSw;go_simp <;> with_reducible rfl)
       simp only [Act.put,List.setIfInBounds_toArray,List.set_cons_zero,List.set_cons_succ];refine wpR_done (by kernel_rfl) ?_
       have HGT:=Hh (HGW0.out.trans HG10'.out);have HRT:=Hh (HRJ.out.grow HGT.out);have HNT:=Hh (HNJ.out.kept (Kept.of_grow HGT.out));have HKT:=Hh (HKJ.out.trans (Kept.of_grow HGT.out));clear b0 b1 b2 b3 HBK HFW HKK;go_wp2;go_ret2;exact ⟨_,_,_,_,rfl,by rw [HFO.out,HCL.out];simp only [List.length_append,List.length_cons,HM.out,HFN.out];omega,by rw [HDR.out,List.length_drop,HNL.out];omega,hqc,by rw [HFO.out,HCL.out];exact HRT.out,by rw [HDR.out];exact HNT.out,HKT.out⟩
     | some q =>
      have HCL:Hid (clos nd (catF (par e) (formF e) (kc nd) l') = [q]):=Hh (by rw [HCF.out];unfold clos;rw [HFQ.out])
      have hwm:IntKind.i64.wrap (((m:Nat):Int) + 1) = ((m:Nat):Int) + 1:=by rw [IntKind.wrap_i64];omega
      have hsk:∀ W:World,(Instr.slice 22 (.slice (some ⟨g,0,none⟩) (m + 1 + f) cap) (some (.int .i64 (((m:Nat):Int) + 1))) none none).run Tryz.prog W = .ok (.slice (cutA (some ⟨g,0,none⟩) cap (m + 1)) f (cap - (m + 1))) W:=fun W => by
       have h:=run_cut_lo (some ⟨g,0,none⟩) (m + 1 + f) cap (m + 1) (by omega) W
       rw [Int.natCast_add] at h;rw [show (m + 1 + f) - (m + 1) = f by omega] at h
       exact h
      have hsh:∀ W:World,(Instr.slice 22 (.slice (some ⟨g,0,none⟩) (m + 1 + f) cap) none (some (.int .i64 ((m:Nat):Int))) none).run Tryz.prog W = .ok (.slice (some ⟨g,0,none⟩) m cap) W:=fun W => run_cut_hi (some ⟨g,0,none⟩) (m + 1 + f) cap m (by omega) W
      have HKK:Hid (∀ wg,Grow wr wg → Nodes wg wg.heap.size (cutA (some ⟨g,0,none⟩) cap (m + 1)) F):=Hh (fun wg h => by
       have h1:=((HRJ.out.grow h).nodes).cut cap (m + 1) (HRJ.out.elim fun cur h => h.2.2.1);rw [show (rs ++ nd :: F).drop (m + 1) = F by rw [← HM.out];simp] at h1
       exact h1)
      obtain ⟨AK,hAK⟩:∃ AK,cutA (some ⟨g,0,none⟩) cap (m + 1) = AK:=⟨_,rfl⟩;rw [hAK] at hsk HKK;have HFW:=Hh (HFC.out F _ HFQ.out HGOOD.out.1 HGOOD.out.2.2);clear hAK;obtain ⟨z,hz⟩:∃ z,(wr).heap.size = z:=⟨_,rfl⟩;have HZW:=Hh hz;clear hz;go_wp2;refine wp_region_R ((Below z)) (n:=12) rfl (by kernel_rfl) ?_
      intro W0 hW0e hW0;have HGW0:=Hh hW0;have HZ0:Hid (W0.heap.size = z):=Hh (by rw [hW0e];exact HZW.out)
      have HB9:=Hh (HBJ.out.grow hW0);have HBK:Hid (∀ wg,Below z W0 wg → BoxN wg nb kd A1 l1 c1 A2 l2 c2 A3 l3 c3):=Hh (fun wg h => HB9.out.grow (grow_z HZ0.out h));have b0:∀ wg,Below z W0 wg → wg.cell? ⟨nb,0,none⟩ = some (.int .i64 kd):=fun wg h => (HBK.out wg h).at0;have b1:∀ wg,Below z W0 wg → wg.cell? ⟨nb,1,none⟩ = some (.slice A1 l1 c1):=fun wg h => (HBK.out wg h).at1;have b2:∀ wg,Below z W0 wg → wg.cell? ⟨nb,2,none⟩ = some (.slice A2 l2 c2):=fun wg h => (HBK.out wg h).at2;have b3:∀ wg,Below z W0 wg → wg.cell? ⟨nb,3,none⟩ = some (.slice A3 l3 c3):=fun wg h => (HBK.out wg h).at3;clear hW0e;refine wpR_take (belowOrd z) (i:=0) (v:=?vf33) rfl (by kernel_rfl) (by kernel_rfl) (by kernel_rfl) (fun _ _ _ h => h) (by rfl) ?hf33 ?rf33
      case hf33 => (intro wg hSw;go_simp <;> with_reducible rfl)
      simp only [Act.put,List.setIfInBounds_toArray,List.set_cons_zero,List.set_cons_succ];refine wpR_take (belowOrd z) (i:=1) (v:=?vf34) rfl (by kernel_rfl) (by kernel_rfl) (by kernel_rfl) (fun _ _ _ h => h) (by rfl) ?hf34 ?rf34
      case hf34 => (intro wg hSw;go_simp <;> with_reducible rfl)
      simp only [Act.put,List.setIfInBounds_toArray,List.set_cons_zero,List.set_cons_succ];refine wpR_take (belowOrd z) (i:=2) (v:=?vf35) rfl (by kernel_rfl) (by kernel_rfl) (by kernel_rfl) (fun _ _ _ h => h) (by rfl) ?hf35 ?rf35
      case hf35 => (intro wg hSw;go_simp <;> with_reducible rfl)
      simp only [Act.put,List.setIfInBounds_toArray,List.set_cons_zero,List.set_cons_succ];refine wpR_take (belowOrd z) (i:=3) (v:=?vf36) rfl (by kernel_rfl) (by kernel_rfl) (by kernel_rfl) (fun _ _ _ h => h) (by rfl) ?hf36 ?rf36
      case hf36 => (intro wg hSw;go_simp <;> with_reducible rfl)
      simp only [Act.put,List.setIfInBounds_toArray,List.set_cons_zero,List.set_cons_succ];refine wpR_take (belowOrd z) (i:=4) (v:=?vf37) rfl (by kernel_rfl) (by kernel_rfl) (by kernel_rfl) (fun _ _ _ h => h) (by rfl) ?hf37 ?rf37
      case hf37 => (intro wg hSw;go_simp <;> with_reducible rfl)
      simp only [Act.put,List.setIfInBounds_toArray,List.set_cons_zero,List.set_cons_succ];refine wpR_two (i:=5) (j:=9) (by kernel_rfl) ?_ ?_
      ·refine wpR_op (i:=5) rfl (by rfl) (fun K hK => ?_)
       go_simp;obtain ⟨zc,hzc⟩:∃ zc,(W0).heap.size = zc:=⟨_,rfl⟩;have HZC:=Hh hzc;have HZL:Hid (z ≤ zc):=Hh (by rw [← HZ0.out,← hzc];exact ((((belowOrd z)).refl W0)).size)
       refine (HFW.out (fun b => ¬ b = g ∧ (b < z ∨ zc ≤ b)) AK f (cap - (m + 1)) W0 HFN.out (fun b hb => ⟨by have h1:=HRJ.out.lt;have h2:=HZW.out;have h3:=HZL.out;omega,.inr (by omega)⟩) (((HDJ.out.lt.keep (T':=fun b => ¬ b = g ∧ (b < z ∨ zc ≤ b)) (w':=wr) (fun b hb => ⟨⟨hb.1,.inl (by have h1:=hb.2;have h2:=HZW.out;omega)⟩,rfl⟩)).grow HGW0.out).grow (grow_z HZ0.out (((belowOrd z)).refl W0))) (HKK.out _ (HGW0.out.trans (grow_z HZ0.out (((belowOrd z)).refl W0))))).mono ?_
       clear hzc;rintro x wM5 ⟨hN5,v,rfl,B1,e1,B2,e2,B3,e3,rfl,m1,m2,m3⟩;have hM5:Below z W0 wM5:=Below.mono hN5 (by rw [HZC.out];exact HZL.out)
       have hC5:NdT (fun b => (¬ b = g ∧ (b < z ∨ zc ≤ b)) ∧ b < wM5.heap.size) wM5 B1 B2 B3 q:=NdT.lt ⟨m1,m2,m3⟩;obtain ⟨q1,hq1⟩:∃ q1,q.shp.length = q1:=⟨_,rfl⟩;obtain ⟨q2,hq2⟩:∃ q2,q.ints.length = q2:=⟨_,rfl⟩;obtain ⟨q3,hq3⟩:∃ q3,q.decs.length = q3:=⟨_,rfl⟩;have HQ1:=Hh hq1;have HQ2:=Hh hq2;have HQ3:=Hh hq3;rw [hq1,hq2,hq3];clear hq1 hq2 hq3 m1 m2 m3;refine hK.out _ _ hM5 ?_;clear hK K
       try simp only [Act.put,List.setIfInBounds_toArray,List.set_cons_zero,List.set_cons_succ]
       refine wpR_take (belowOrd z) (i:=6) (v:=?vf38) rfl (by kernel_rfl) (by kernel_rfl) (by kernel_rfl) (fun _ _ _ h => h) (by rfl) ?hf38 ?rf38
       case hf38 => (intro wg hSw;go_simp <;> with_reducible rfl)
       simp only [Act.put,List.setIfInBounds_toArray,List.set_cons_zero,List.set_cons_succ];refine wpR_take (belowOrd z) (i:=7) (v:=?vf39) rfl (by kernel_rfl) (by kernel_rfl) (by kernel_rfl) (fun _ _ _ h => h) (by rfl) ?hf39 ?rf39
       case hf39 => (intro wg hSw;go_simp <;> with_reducible rfl)
       simp only [Act.put,List.setIfInBounds_toArray,List.set_cons_zero,List.set_cons_succ];refine wpR_take (belowOrd z) (i:=8) (v:=?vf40) rfl (by kernel_rfl) (by kernel_rfl) (by kernel_rfl) (fun _ _ _ h => h) (by rfl) ?hf40 ?rf40
       case hf40 => (intro wg hSw;go_simp <;> with_reducible rfl)
       simp only [Act.put,List.setIfInBounds_toArray,List.set_cons_zero,List.set_cons_succ];refine wpR_one (i:=9) (by kernel_rfl) ?_
       refine wpR_op (i:=9) rfl (by rfl) (fun K hK => ?_)
       go_simp;refine hK.out _ _ (Below.mono (grow_new _ _) (by rw [← HZ0.out];exact ((((belowOrd z)).trans (((belowOrd z)).refl W0) hM5)).size)) ?_
       clear hK K
       try simp only [Act.put,List.setIfInBounds_toArray,List.set_cons_zero,List.set_cons_succ]
       obtain ⟨tb,htb⟩:∃ tb,(wM5).heap.size = tb:=⟨_,rfl⟩;have HTB:=Hh htb;have hbs:=boxN_new wM5 0 none 0 0 none 0 0 none 0 0;have hgs:=grow_new wM5 (.cells #[.int .i64 0,.slice none 0 0,.slice none 0 0,.slice none 0 0] 34);have hsz:(World.alloc wM5 (.cells #[.int .i64 0,.slice none 0 0,.slice none 0 0,.slice none 0 0] 34)).heap.size = tb + 1:=by rw [← htb];simp
       rw [htb] at hbs ⊢;have HTL:Hid (z ≤ tb):=Hh (by rw [← HZ0.out,← htb];exact ((((belowOrd z)).trans (((belowOrd z)).refl W0) hM5)).size)
       generalize hwM9:World.alloc wM5 (.cells #[.int .i64 0,.slice none 0 0,.slice none 0 0,.slice none 0 0] 34) = wM9 at *;have hC9:BoxN wM9 tb 0 none 0 0 none 0 0 none 0 0:=hbs;have hN9:Grow wM5 wM9:=hgs;have hM9:Below z wM5 wM9:=Below.mono hgs (by rw [← HZ0.out];exact ((((belowOrd z)).trans (((belowOrd z)).refl W0) hM5)).size)
       have HZ9:=Hh hsz;clear hwM9 htb hbs hgs hsz;refine wpR_one (i:=10) (by kernel_rfl) ?_
       refine wpR_op (i:=10) rfl (by rfl) (fun K hK => ?_)
       have HBB:=Hh hC9;have f0:=HBB.out.froz 0;have f1:=HBB.out.froz 1;have f2:=HBB.out.froz 2;have f3:=HBB.out.froz 3;have d0:=HBB.out.at0;have d1:=HBB.out.at1;have d2:=HBB.out.at2;have d3:=HBB.out.at3;have hGG:=grow_z HZ0.out (((belowOrd z)).trans (((belowOrd z)).trans (((belowOrd z)).refl W0) hM5) hM9);go_simp;refine hK.out _ _ (below_put4 HTL.out _ _ _ _) ?_;clear hK K
       try simp only [Act.put,List.setIfInBounds_toArray,List.set_cons_zero,List.set_cons_succ]
       have HB10':=Hh (HBB.out.store q.kind B1 B2 B3 q1 e1 q2 e2 q3 e3);have HG10':Hid (Grow W0 ((((World.setCell wM9 ⟨tb,0,none⟩ (.int .i64 q.kind)).setCell ⟨tb,1,none⟩ (.slice B1 q1 e1)).setCell ⟨tb,2,none⟩ (.slice B2 q2 e2)).setCell ⟨tb,3,none⟩ (.slice B3 q3 e3))):=Hh (grow_z HZ0.out (Below.trans (((belowOrd z)).trans (((belowOrd z)).trans (((belowOrd z)).refl W0) hM5) hM9) (below_put4 HTL.out _ _ _ _)));have hM10':=below_put4 (w:=wM9) HTL.out (.int .i64 q.kind) (.slice B1 q1 e1) (.slice B2 q2 e2) (.slice B3 q3 e3);have HD10':Hid (NdT (fun b => ¬ b = g) ((((World.setCell wM9 ⟨tb,0,none⟩ (.int .i64 q.kind)).setCell ⟨tb,1,none⟩ (.slice B1 q1 e1)).setCell ⟨tb,2,none⟩ (.slice B2 q2 e2)).setCell ⟨tb,3,none⟩ (.slice B3 q3 e3)) B1 B2 B3 q):=Hh (((hC5.grow hN9)).keep fun b hb => ⟨hb.1.1,other4 (by have h1:=hb.1.2;have h2:=hb.2;have h3:=HZ0.out;have h4:=HTB.out;have h5:=HZ9.out;have h6:=HZC.out;omega) _ _ _ _⟩)
       clear f0 f1 f2 f3 d0 d1 d2 d3 hGG;generalize hw10:World.setCell (World.setCell (World.setCell (World.setCell wM9 ⟨tb,0,none⟩ (.int .i64 q.kind)) ⟨tb,1,none⟩ (.slice B1 q1 e1)) ⟨tb,2,none⟩ (.slice B2 q2 e2)) ⟨tb,3,none⟩ (.slice B3 q3 e3) = wM10 at *;have hM10:=hM10';clear hw10 hM10';refine wpR_take (belowOrd z) (i:=11) (v:=?vf41) rfl (by kernel_rfl) (by kernel_rfl) (by kernel_rfl) (fun _ _ _ h => h) (by rfl) ?hf41 ?rf41
       case hf41 => (intro wg hSw;go_simp <;> with_reducible rfl)
       simp only [Act.put,List.setIfInBounds_toArray,List.set_cons_zero,List.set_cons_succ];refine wpR_done (by kernel_rfl) ?_
       have HGT:=Hh (HGW0.out.trans HG10'.out);have HRT:=Hh (HRJ.out.grow HGT.out);have HNT:=Hh (HNJ.out.kept (Kept.of_grow HGT.out));have HKT:=Hh (HKJ.out.trans (Kept.of_grow HGT.out));clear b0 b1 b2 b3 HBK HFW HKK;have hgb2:Hid (¬ tb = g):=Hh (by have h1:=HRJ.out.lt;have h2:=HZW.out;have h3:=HTL.out;omega)
       have HRK:=Hh (HRT.out.take m);rw [show (rs ++ nd :: F).take m = rs by rw [← HM.out];simp] at HRK
       have HDT:=Hh HD10'.out;have HBT:=Hh HB10'.out;clear HB10' HD10' HG10' HRT;go_wp2;refine wp_region_R ((Kept (fun k => k = g))) (n:=7) rfl (by kernel_rfl) ?_
       intro W0 hW0e hW0;have HWX:=Hh hW0;have HBX:=Hh (HBT.out.grow hW0);have HBY:Hid (∀ wg,Kept (fun k => k = g) W0 wg → BoxN wg tb q.kind B1 q1 e1 B2 q2 e2 B3 q3 e3):=Hh (fun wg h => (h.block tb HBX.out.lt hgb2.out).trans HBX.out);have x0:∀ wg,Kept (fun k => k = g) W0 wg → wg.cell? ⟨tb,0,none⟩ = some (.int .i64 q.kind):=fun wg h => (HBY.out wg h).at0;have x1:∀ wg,Kept (fun k => k = g) W0 wg → wg.cell? ⟨tb,1,none⟩ = some (.slice B1 q1 e1):=fun wg h => (HBY.out wg h).at1;have x2:∀ wg,Kept (fun k => k = g) W0 wg → wg.cell? ⟨tb,2,none⟩ = some (.slice B2 q2 e2):=fun wg h => (HBY.out wg h).at2;have x3:∀ wg,Kept (fun k => k = g) W0 wg → wg.cell? ⟨tb,3,none⟩ = some (.slice B3 q3 e3):=fun wg h => (HBY.out wg h).at3;clear hW0e;refine wpR_take (keptOrd (fun k => k = g)) (i:=0) (v:=?vf56) rfl (by kernel_rfl) (by kernel_rfl) (by kernel_rfl) (fun _ _ _ h => h) (by rfl) ?hf56 ?rf56
       case hf56 => (intro wg hSw;go_simp <;> with_reducible rfl)
       simp only [Act.put,List.setIfInBounds_toArray,List.set_cons_zero,List.set_cons_succ];refine wpR_take (keptOrd (fun k => k = g)) (i:=1) (v:=?vf57) rfl (by kernel_rfl) (by kernel_rfl) (by kernel_rfl) (fun _ _ _ h => h) (by rfl) ?hf57 ?rf57
       case hf57 => (intro wg hSw;go_simp <;> with_reducible rfl)
       simp only [Act.put,List.setIfInBounds_toArray,List.set_cons_zero,List.set_cons_succ];refine wpR_take (keptOrd (fun k => k = g)) (i:=2) (v:=?vf58) rfl (by kernel_rfl) (by kernel_rfl) (by kernel_rfl) (fun _ _ _ h => h) (by rfl) ?hf58 ?rf58
       case hf58 => (intro wg hSw;go_simp <;> with_reducible rfl)
       simp only [Act.put,List.setIfInBounds_toArray,List.set_cons_zero,List.set_cons_succ];refine wpR_take (keptOrd (fun k => k = g)) (i:=3) (v:=?vf59) rfl (by kernel_rfl) (by kernel_rfl) (by kernel_rfl) (fun _ _ _ h => h) (by rfl) ?hf59 ?rf59
       case hf59 => (intro wg hSw;go_simp <;> with_reducible rfl)
       simp only [Act.put,List.setIfInBounds_toArray,List.set_cons_zero,List.set_cons_succ];refine wpR_one (i:=4) (by kernel_rfl) ?_
       refine wpR_op (i:=4) rfl (by rfl) (fun K hK => ?_)
       go_simp;refine hK.out _ _ (Kept.of_grow (grow_new _ _)) ?_;clear hK K
       try simp only [Act.put,List.setIfInBounds_toArray,List.set_cons_zero,List.set_cons_succ]
       obtain ⟨sy,hsy⟩:∃ sy,(W0).heap.size = sy:=⟨_,rfl⟩;have hbs:=boxN_new W0 q.kind B1 q1 e1 B2 q2 e2 B3 q3 e3;have hgs:=grow_new W0 (.cells #[.int .i64 q.kind,.slice B1 q1 e1,.slice B2 q2 e2,.slice B3 q3 e3] 34);rw [hsy] at hbs ⊢;generalize hwM4:World.alloc W0 (Obj.cells #[.int .i64 q.kind,.slice B1 q1 e1,.slice B2 q2 e2,.slice B3 q3 e3] 34) = wM4 at *;have HBS:=Hh hbs;have HGS2:=Hh (HWX.out.trans hgs);have hM4:Kept (fun k => k = g) W0 wM4:=Kept.of_grow hgs;clear hwM4 hsy hbs hgs;refine wpR_one (i:=5) (by kernel_rfl) ?_
       refine wpR_op (i:=5) rfl (by rfl) (fun K hK => ?_)
       refine wp_push _ _ rfl g cap m rs q sy B1 B2 B3 q1 e1 q2 e2 q3 e3 rfl rfl (HRK.out.grow HGS2.out) HM.out (by omega) HBS.out HQ1.out HQ2.out HQ3.out (HDT.out.grow HGS2.out).1 (HDT.out.grow HGS2.out).2.1 (HDT.out.grow HGS2.out).2.2 ?_
       intro wM5 hr5 hM5;refine hK.out _ _ hM5 ?_;clear hK K
       try simp only [Act.put,List.setIfInBounds_toArray,List.set_cons_zero,List.set_cons_succ]
       have HR5:=Hh hr5;have HK5:=Hh ((Kept.of_grow HGS2.out).trans hM5);clear hr5;refine wpR_take (keptOrd (fun k => k = g)) (i:=6) (v:=?vf60) rfl (by kernel_rfl) (by kernel_rfl) (by kernel_rfl) (fun _ _ _ h => h) (by rfl) ?hf60 ?rf60
       case hf60 => (intro wg hSw;go_simp <;> with_reducible rfl)
       simp only [Act.put,List.setIfInBounds_toArray,List.set_cons_zero,List.set_cons_succ];refine wpR_done (by kernel_rfl) ?_
       clear x0 x1 x2 x3;have HNU:=Hh (HNT.out.kept HK5.out);have HKU:=Hh (HKT.out.trans HK5.out);go_wp2;go_ret2;exact ⟨_,_,_,_,rfl,by rw [HFO.out,HCL.out];simp only [List.length_append,List.length_cons,List.length_nil,HM.out],by rw [HDR.out,List.length_drop,HNL.out];omega,hqc,by rw [HFO.out,HCL.out];exact HR5.out,by rw [HDR.out];exact HNU.out,HKU.out⟩
      ·refine wpR_op (i:=9) rfl (by rfl) (fun K hK => ?_)
       go_simp;refine hK.out _ _ (Below.mono (grow_new _ _) (by rw [← HZ0.out];exact ((((belowOrd z)).refl W0)).size)) ?_
       clear hK K
       try simp only [Act.put,List.setIfInBounds_toArray,List.set_cons_zero,List.set_cons_succ]
       obtain ⟨tb,htb⟩:∃ tb,(W0).heap.size = tb:=⟨_,rfl⟩;have HTB:=Hh htb;have hbs:=boxN_new W0 0 none 0 0 none 0 0 none 0 0;have hgs:=grow_new W0 (.cells #[.int .i64 0,.slice none 0 0,.slice none 0 0,.slice none 0 0] 34);have hsz:(World.alloc W0 (.cells #[.int .i64 0,.slice none 0 0,.slice none 0 0,.slice none 0 0] 34)).heap.size = tb + 1:=by rw [← htb];simp
       rw [htb] at hbs ⊢;have HTL:Hid (z ≤ tb):=Hh (by rw [← HZ0.out,← htb];exact ((((belowOrd z)).refl W0)).size)
       generalize hwM9:World.alloc W0 (.cells #[.int .i64 0,.slice none 0 0,.slice none 0 0,.slice none 0 0] 34) = wM9 at *;have hC9:BoxN wM9 tb 0 none 0 0 none 0 0 none 0 0:=hbs;have hN9:Grow W0 wM9:=hgs;have hM9:Below z W0 wM9:=Below.mono hgs (by rw [← HZ0.out];exact ((((belowOrd z)).refl W0)).size)
       have HZ9:=Hh hsz;clear hwM9 htb hbs hgs hsz;refine wpR_one (i:=5) (by kernel_rfl) ?_
       refine wpR_op (i:=5) rfl (by rfl) (fun K hK => ?_)
       go_simp;obtain ⟨zc,hzc⟩:∃ zc,(wM9).heap.size = zc:=⟨_,rfl⟩;have HZC:=Hh hzc;have HZL:Hid (z ≤ zc):=Hh (by rw [← HZ0.out,← hzc];exact ((((belowOrd z)).trans (((belowOrd z)).refl W0) hM9)).size)
       refine (HFW.out (fun b => ¬ b = g ∧ (b < z ∨ zc ≤ b)) AK f (cap - (m + 1)) wM9 HFN.out (fun b hb => ⟨by have h1:=HRJ.out.lt;have h2:=HZW.out;have h3:=HZL.out;omega,.inr (by omega)⟩) (((HDJ.out.lt.keep (T':=fun b => ¬ b = g ∧ (b < z ∨ zc ≤ b)) (w':=wr) (fun b hb => ⟨⟨hb.1,.inl (by have h1:=hb.2;have h2:=HZW.out;omega)⟩,rfl⟩)).grow HGW0.out).grow (grow_z HZ0.out (((belowOrd z)).trans (((belowOrd z)).refl W0) hM9))) (HKK.out _ (HGW0.out.trans (grow_z HZ0.out (((belowOrd z)).trans (((belowOrd z)).refl W0) hM9))))).mono ?_
       clear hzc;rintro x wM5 ⟨hN5,v,rfl,B1,e1,B2,e2,B3,e3,rfl,m1,m2,m3⟩;have hM5:Below z wM9 wM5:=Below.mono hN5 (by rw [HZC.out];exact HZL.out)
       have hC5:NdT (fun b => (¬ b = g ∧ (b < z ∨ zc ≤ b)) ∧ b < wM5.heap.size) wM5 B1 B2 B3 q:=NdT.lt ⟨m1,m2,m3⟩;obtain ⟨q1,hq1⟩:∃ q1,q.shp.length = q1:=⟨_,rfl⟩;obtain ⟨q2,hq2⟩:∃ q2,q.ints.length = q2:=⟨_,rfl⟩;obtain ⟨q3,hq3⟩:∃ q3,q.decs.length = q3:=⟨_,rfl⟩;have HQ1:=Hh hq1;have HQ2:=Hh hq2;have HQ3:=Hh hq3;rw [hq1,hq2,hq3];clear hq1 hq2 hq3 m1 m2 m3;refine hK.out _ _ hM5 ?_;clear hK K
       try simp only [Act.put,List.setIfInBounds_toArray,List.set_cons_zero,List.set_cons_succ]
       refine wpR_take (belowOrd z) (i:=6) (v:=?vf42) rfl (by kernel_rfl) (by kernel_rfl) (by kernel_rfl) (fun _ _ _ h => h) (by rfl) ?hf42 ?rf42
       case hf42 => (intro wg hSw;go_simp <;> with_reducible rfl)
       simp only [Act.put,List.setIfInBounds_toArray,List.set_cons_zero,List.set_cons_succ];refine wpR_take (belowOrd z) (i:=7) (v:=?vf43) rfl (by kernel_rfl) (by kernel_rfl) (by kernel_rfl) (fun _ _ _ h => h) (by rfl) ?hf43 ?rf43
       case hf43 => (intro wg hSw;go_simp <;> with_reducible rfl)
       simp only [Act.put,List.setIfInBounds_toArray,List.set_cons_zero,List.set_cons_succ];refine wpR_take (belowOrd z) (i:=8) (v:=?vf44) rfl (by kernel_rfl) (by kernel_rfl) (by kernel_rfl) (fun _ _ _ h => h) (by rfl) ?hf44 ?rf44
       case hf44 => (intro wg hSw;go_simp <;> with_reducible rfl)
       simp only [Act.put,List.setIfInBounds_toArray,List.set_cons_zero,List.set_cons_succ];refine wpR_one (i:=10) (by kernel_rfl) ?_
       refine wpR_op (i:=10) rfl (by rfl) (fun K hK => ?_)
       have HBB:=Hh (hC9.grow hN5);have f0:=HBB.out.froz 0;have f1:=HBB.out.froz 1;have f2:=HBB.out.froz 2;have f3:=HBB.out.froz 3;have d0:=HBB.out.at0;have d1:=HBB.out.at1;have d2:=HBB.out.at2;have d3:=HBB.out.at3;have hGG:=grow_z HZ0.out (((belowOrd z)).trans (((belowOrd z)).trans (((belowOrd z)).refl W0) hM9) hM5);go_simp;refine hK.out _ _ (below_put4 HTL.out _ _ _ _) ?_;clear hK K
       try simp only [Act.put,List.setIfInBounds_toArray,List.set_cons_zero,List.set_cons_succ]
       have HB10':=Hh (HBB.out.store q.kind B1 B2 B3 q1 e1 q2 e2 q3 e3);have HG10':Hid (Grow W0 ((((World.setCell wM5 ⟨tb,0,none⟩ (.int .i64 q.kind)).setCell ⟨tb,1,none⟩ (.slice B1 q1 e1)).setCell ⟨tb,2,none⟩ (.slice B2 q2 e2)).setCell ⟨tb,3,none⟩ (.slice B3 q3 e3))):=Hh (grow_z HZ0.out (Below.trans (((belowOrd z)).trans (((belowOrd z)).trans (((belowOrd z)).refl W0) hM9) hM5) (below_put4 HTL.out _ _ _ _)));have hM10':=below_put4 (w:=wM5) HTL.out (.int .i64 q.kind) (.slice B1 q1 e1) (.slice B2 q2 e2) (.slice B3 q3 e3);have HD10':Hid (NdT (fun b => ¬ b = g) ((((World.setCell wM5 ⟨tb,0,none⟩ (.int .i64 q.kind)).setCell ⟨tb,1,none⟩ (.slice B1 q1 e1)).setCell ⟨tb,2,none⟩ (.slice B2 q2 e2)).setCell ⟨tb,3,none⟩ (.slice B3 q3 e3)) B1 B2 B3 q):=Hh ((hC5).keep fun b hb => ⟨hb.1.1,other4 (by have h1:=hb.1.2;have h2:=hb.2;have h3:=HZ0.out;have h4:=HTB.out;have h5:=HZ9.out;have h6:=HZC.out;omega) _ _ _ _⟩)
       clear f0 f1 f2 f3 d0 d1 d2 d3 hGG;generalize hw10:World.setCell (World.setCell (World.setCell (World.setCell wM5 ⟨tb,0,none⟩ (.int .i64 q.kind)) ⟨tb,1,none⟩ (.slice B1 q1 e1)) ⟨tb,2,none⟩ (.slice B2 q2 e2)) ⟨tb,3,none⟩ (.slice B3 q3 e3) = wM10 at *;have hM10:=hM10';clear hw10 hM10';refine wpR_take (belowOrd z) (i:=11) (v:=?vf45) rfl (by kernel_rfl) (by kernel_rfl) (by kernel_rfl) (fun _ _ _ h => h) (by rfl) ?hf45 ?rf45
       case hf45 => (intro wg hSw;go_simp <;> with_reducible rfl)
       simp only [Act.put,List.setIfInBounds_toArray,List.set_cons_zero,List.set_cons_succ];refine wpR_done (by kernel_rfl) ?_
       have HGT:=Hh (HGW0.out.trans HG10'.out);have HRT:=Hh (HRJ.out.grow HGT.out);have HNT:=Hh (HNJ.out.kept (Kept.of_grow HGT.out));have HKT:=Hh (HKJ.out.trans (Kept.of_grow HGT.out));clear b0 b1 b2 b3 HBK HFW HKK;have hgb2:Hid (¬ tb = g):=Hh (by have h1:=HRJ.out.lt;have h2:=HZW.out;have h3:=HTL.out;omega)
       have HRK:=Hh (HRT.out.take m);rw [show (rs ++ nd :: F).take m = rs by rw [← HM.out];simp] at HRK
       have HDT:=Hh HD10'.out;have HBT:=Hh HB10'.out;clear HB10' HD10' HG10' HRT;go_wp2;refine wp_region_R ((Kept (fun k => k = g))) (n:=7) rfl (by kernel_rfl) ?_
       intro W0 hW0e hW0;have HWX:=Hh hW0;have HBX:=Hh (HBT.out.grow hW0);have HBY:Hid (∀ wg,Kept (fun k => k = g) W0 wg → BoxN wg tb q.kind B1 q1 e1 B2 q2 e2 B3 q3 e3):=Hh (fun wg h => (h.block tb HBX.out.lt hgb2.out).trans HBX.out);have x0:∀ wg,Kept (fun k => k = g) W0 wg → wg.cell? ⟨tb,0,none⟩ = some (.int .i64 q.kind):=fun wg h => (HBY.out wg h).at0;have x1:∀ wg,Kept (fun k => k = g) W0 wg → wg.cell? ⟨tb,1,none⟩ = some (.slice B1 q1 e1):=fun wg h => (HBY.out wg h).at1;have x2:∀ wg,Kept (fun k => k = g) W0 wg → wg.cell? ⟨tb,2,none⟩ = some (.slice B2 q2 e2):=fun wg h => (HBY.out wg h).at2;have x3:∀ wg,Kept (fun k => k = g) W0 wg → wg.cell? ⟨tb,3,none⟩ = some (.slice B3 q3 e3):=fun wg h => (HBY.out wg h).at3;clear hW0e;refine wpR_take (keptOrd (fun k => k = g)) (i:=0) (v:=?vf61) rfl (by kernel_rfl) (by kernel_rfl) (by kernel_rfl) (fun _ _ _ h => h) (by rfl) ?hf61 ?rf61
       case hf61 => (intro wg hSw;go_simp <;> with_reducible rfl)
       simp only [Act.put,List.setIfInBounds_toArray,List.set_cons_zero,List.set_cons_succ];refine wpR_take (keptOrd (fun k => k = g)) (i:=1) (v:=?vf62) rfl (by kernel_rfl) (by kernel_rfl) (by kernel_rfl) (fun _ _ _ h => h) (by rfl) ?hf62 ?rf62
       case hf62 => (intro wg hSw;go_simp <;> with_reducible rfl)
       simp only [Act.put,List.setIfInBounds_toArray,List.set_cons_zero,List.set_cons_succ];refine wpR_take (keptOrd (fun k => k = g)) (i:=2) (v:=?vf63) rfl (by kernel_rfl) (by kernel_rfl) (by kernel_rfl) (fun _ _ _ h => h) (by rfl) ?hf63 ?rf63
       case hf63 => (intro wg hSw;go_simp <;> with_reducible rfl)
       simp only [Act.put,List.setIfInBounds_toArray,List.set_cons_zero,List.set_cons_succ];refine wpR_take (keptOrd (fun k => k = g)) (i:=3) (v:=?vf64) rfl (by kernel_rfl) (by kernel_rfl) (by kernel_rfl) (fun _ _ _ h => h) (by rfl) ?hf64 ?rf64
       case hf64 => (intro wg hSw;go_simp <;> with_reducible rfl)
       simp only [Act.put,List.setIfInBounds_toArray,List.set_cons_zero,List.set_cons_succ];refine wpR_one (i:=4) (by kernel_rfl) ?_
       refine wpR_op (i:=4) rfl (by rfl) (fun K hK => ?_)
       go_simp;refine hK.out _ _ (Kept.of_grow (grow_new _ _)) ?_;clear hK K
       try simp only [Act.put,List.setIfInBounds_toArray,List.set_cons_zero,List.set_cons_succ]
       obtain ⟨sy,hsy⟩:∃ sy,(W0).heap.size = sy:=⟨_,rfl⟩;have hbs:=boxN_new W0 q.kind B1 q1 e1 B2 q2 e2 B3 q3 e3;have hgs:=grow_new W0 (.cells #[.int .i64 q.kind,.slice B1 q1 e1,.slice B2 q2 e2,.slice B3 q3 e3] 34);rw [hsy] at hbs ⊢;generalize hwM4:World.alloc W0 (Obj.cells #[.int .i64 q.kind,.slice B1 q1 e1,.slice B2 q2 e2,.slice B3 q3 e3] 34) = wM4 at *;have HBS:=Hh hbs;have HGS2:=Hh (HWX.out.trans hgs);have hM4:Kept (fun k => k = g) W0 wM4:=Kept.of_grow hgs;clear hwM4 hsy hbs hgs;refine wpR_one (i:=5) (by kernel_rfl) ?_
       refine wpR_op (i:=5) rfl (by rfl) (fun K hK => ?_)
       refine wp_push _ _ rfl g cap m rs q sy B1 B2 B3 q1 e1 q2 e2 q3 e3 rfl rfl (HRK.out.grow HGS2.out) HM.out (by omega) HBS.out HQ1.out HQ2.out HQ3.out (HDT.out.grow HGS2.out).1 (HDT.out.grow HGS2.out).2.1 (HDT.out.grow HGS2.out).2.2 ?_
       intro wM5 hr5 hM5;refine hK.out _ _ hM5 ?_;clear hK K
       try simp only [Act.put,List.setIfInBounds_toArray,List.set_cons_zero,List.set_cons_succ]
       have HR5:=Hh hr5;have HK5:=Hh ((Kept.of_grow HGS2.out).trans hM5);clear hr5;refine wpR_take (keptOrd (fun k => k = g)) (i:=6) (v:=?vf65) rfl (by kernel_rfl) (by kernel_rfl) (by kernel_rfl) (fun _ _ _ h => h) (by rfl) ?hf65 ?rf65
       case hf65 => (intro wg hSw;go_simp <;> with_reducible rfl)
       simp only [Act.put,List.setIfInBounds_toArray,List.set_cons_zero,List.set_cons_succ];refine wpR_done (by kernel_rfl) ?_
       clear x0 x1 x2 x3;have HNU:=Hh (HNT.out.kept HK5.out);have HKU:=Hh (HKT.out.trans HK5.out);go_wp2;go_ret2;exact ⟨_,_,_,_,rfl,by rw [HFO.out,HCL.out];simp only [List.length_append,List.length_cons,List.length_nil,HM.out],by rw [HDR.out,List.length_drop,HNL.out];omega,hqc,by rw [HFO.out,HCL.out];exact HR5.out,by rw [HDR.out];exact HNU.out,HKU.out⟩
open Go.RowKit Go.Lib
theorem make_room (n:Nat) (hn:n ≤ 1100000) :
  ∃ cur:Array Value,cur.size = n * 4 ∧ ∀ W:World,(Instr.makeSlice 22 (.int .i64 0) (.int .i64 (n:Nat))).run Tryz.prog W = .ok (.slice (some ⟨W.heap.size,0,none⟩) 0 n) (W.alloc (.cells cur 34)):=by
 obtain ⟨i,hi,hz,hs,hby⟩:=info_of info_node;refine ⟨_,size_madeCells (Value.cells (.agg #[.int .i64 0,.slice none 0 0,.slice none 0 0,.slice none 0 0])) (n * 4),fun W => ?_⟩;have hb':(i.bytes:Int) * ((n:Nat):Int) ≤ 281474976710656:=by
  have h:((i.bytes * n:Nat):Int) ≤ 281474976710656:=by rw [hby];omega
  rwa [Int.natCast_mul] at h
 have hr:=run_make (P:=Tryz.prog) W 22 34 i _ Tryz.underlying22 hi hz .i64 .i64 0 n (by omega) (by omega) hb' (by omega)
 simp only [Int.toNat_natCast,hs] at hr;exact hr
def FormP (β:Bool) (F:List Nd) (w:World) (e:Ending) (w':World):Prop :=
 Grow w w' ∧ ((β = false ∧ e = .returned (.tuple #[.slice none 0 0,.bool false])) ∨ (β = true ∧ ∃ A r c,e = .returned (.tuple #[.slice A r c,.bool true]) ∧ F.length = r ∧ r ≤ c ∧ Nodes w' w'.heap.size A F))
theorem formOf_any (A:Option Addr) (n c:Nat) (ns:List Nd) (w:World) (hn:ns.length = n) (hnc:n ≤ c) (hf:Fine ns) (hi:(ws ns).i ≤ 1099999) (hns:Nodes w w.heap.size A ns) :
  Calls Tryz.prog 32 #[.slice A n c] w (FormP (rightA ns) (formA ns) w):=by
 have hnb:n ≤ 1100000:=by rw [← hn];exact hf.1
 have HC:=Hh (aright_any A n c ns w hn hnb hf.2.1 hns)
 cases hr:rightA ns with
 | false =>
  rw [hr] at HC;clear hr hf hi hns hn
  go_enter Tryz.func32,Tryz.ntmps32
  go_wp2_with fail;refine (HC.out).mono ?_;rintro e w2 ⟨rfl,hg⟩;have HG:=Hh hg;clear hg HC;go_wp2;go_ret2;exact ⟨HG.out,.inl ⟨rfl,rfl⟩⟩
 | true =>
  rw [hr] at HC;obtain ⟨s,hs⟩:=right_some hr;rw [ws_some hs] at hi;have HP:=Hh (whl_some hs).1;have HF:=Hh hf;have HN:=Hh hn;have HNS:=Hh hns;have HI:=Hh hi;clear hr hs hf hn hns hi;obtain ⟨cur,hcur,hmk⟩:=make_room n hnb;have HCU:=Hh hcur;clear hcur
  go_enter Tryz.func32,Tryz.ntmps32
  go_wp2_with fail;refine (HC.out).mono ?_;rintro e w2 ⟨rfl,hg⟩;have HG2:=Hh hg;have HG3:=Hh (grow_new w2 (.cells cur 34));obtain ⟨g,hg0⟩:∃ g,w2.heap.size = g:=⟨_,rfl⟩;have HGE:=Hh hg0;have hrow:RowC (w2.alloc (.cells cur 34)) g n []:=by
   have h:=heap_alloc_new w2 (.cells cur 34);rw [hg0] at h;exact ⟨cur,h,HCU.out,Nat.zero_le _,fun i hi => absurd hi (by simp)⟩
  have hnt:NodesT (fun b => ¬ b = g) (w2.alloc (.cells cur 34)) A ns:=by
   refine (Nodes.nodesT (HNS.out.grow HG2.out)).keep fun b hb => ⟨by rw [← hg0];exact Nat.ne_of_lt hb,HG3.out.block b hb⟩
  have HL:=Hh (lay_any 16 g n 0 [] A n c ns s _ HP.out HI.out HF.out hnb rfl HN.out (by omega) hnc hrow hnt)
  have HGW:=Hh (HG2.out.trans HG3.out);clear hg HC hrow hnt hg0;rw [← HGE.out] at HL;go_wp2_with fail;refine (HL.out).mono ?_;rintro x w5 ⟨r,A',q,c',rfl,hr,_,_,hrow,_,hk⟩;rw [List.nil_append] at hr hrow;have HR:=Hh hr;have HRW:=Hh hrow;have HK:=Hh (Kept.grow (w:=w) HGW.out hk (fun i hi => by rw [hi];exact HG2.out.size))
  have HRN:Hid (r ≤ n):=Hh (by obtain ⟨_,_,_,h,_⟩:=hrow;rw [hr] at h;exact h)
  clear hr hrow hk HL;go_wp2;go_ret2;exact ⟨HK.out,.inr ⟨rfl,_,_,_,rfl,HR.out,HRN.out,HRW.out.nodes⟩⟩
theorem tright_any (A:Option Addr) (n c:Nat) (ns:List Nd) (w:World) (hn:ns.length = n) (hnc:n ≤ c) (hf:Fine ns) (hi:(ws ns).i ≤ 1099999) (hns:Nodes w w.heap.size A ns) :
  Calls Tryz.prog 16 #[.slice A n c] w (Ret (.bool (rightA ns && decide (ns = formA ns))) w):=by
 have HC:=Hh (formOf_any A n c ns w hn hnc hf hi hns);have HFF:Hid (rightA ns = true → Fine (formA ns)):=Hh (fun h => (form_right h hf).2.2.2.2.1);have HNS:=Hh hns;have HF:=Hh hf;have HN:=Hh hn;generalize rightA ns = β at *;clear hn hnc hf hi hns
 go_enter Tryz.func16,Tryz.ntmps16
 go_wp2_with fail;refine (HC.out).mono ?_;rintro e w2 ⟨hg,⟨rfl,rfl⟩ | ⟨rfl,A',r,c',rfl,hr,hc,hN⟩⟩
 ·have HG:=Hh hg
  clear hg HC;go_wp2;go_ret;exact ⟨rfl,HG.out⟩
 ·have HG:=Hh hg
  have hfn:=HFF.out rfl;have HS:=Hh (same_any A A' n r c c' ns (formA ns) w2 HN.out hr (by rw [← HN.out];exact HF.out.1) (by rw [← hr];exact hfn.1) HF.out.2.1 hfn.2.1 (HNS.out.grow hg) hN)
  clear hg hN hr hfn HC;generalize decide (ns = formA ns) = γ at *;go_wp2_with fail;refine (HS.out).mono ?_;rintro x w3 ⟨rfl,hg3⟩;go_wp2;go_ret;exact ⟨rfl,HG.out.trans hg3⟩
open Go.RowKit Go.Lib
theorem Nums.nt {T:Nat → Prop} {w:World} {A:Option Addr} {xs:List Int} (h:Nums .i64 w w.heap.size A xs) (hT:∀ b,b < w.heap.size → T b):NumsT T w A xs:=fun hn => by
 obtain ⟨b,off,e,hb,hc⟩:=h hn;exact ⟨b,off,e,hT b hb,hc⟩
theorem Decs.dt {T:Nat → Prop} {w:World} {A:Option Addr} {ds:List (Int × Int)} (h:Decs w w.heap.size A ds) (hT:∀ b,b < w.heap.size → T b):DecsT T w A ds:=fun hn => by
 obtain ⟨b,off,e,hb,hc⟩:=h hn;exact ⟨b,off,e,hT b hb,hc⟩
theorem wrong1_any (m e:Int) (w:World) (hm:In m) (he:In e) :
  Calls Tryz.prog 43 #[.agg #[.int .i64 m,.int .i64 e]] w (Says (!decB (m,e)) w):=by
 have HC:=Hh (fun W => right_any m e W hm he);have e1:decB (m,e) = rightD m e:=rfl;rw [e1];clear e1 hm he;generalize rightD m e = β at *;have hb:=boxed_new w (.int .i64 m) (.int .i64 e) 41;have c0:=hb.fst;have c1:=hb.snd;have HG:=Hh (grow_new w (.cells #[.int .i64 m,.int .i64 e] 41));clear hb
 cases β with
 | true =>
  go_enter Tryz.func43,Tryz.ntmps43
  go_wp2_with fail;refine (HC.out _).mono ?_;rintro x w2 ⟨rfl,hg⟩;go_wp2;go_ret;exact ⟨rfl,HG.out.trans hg⟩
 | false =>
  go_enter Tryz.func43,Tryz.ntmps43
  go_wp2_with fail;refine (HC.out _).mono ?_;rintro x w2 ⟨rfl,hg⟩;go_wp2;go_ret;exact ⟨rfl,HG.out.trans hg⟩
def FindsD (β:Bool) (w:World) (e:Ending) (w':World):Prop:=∃ j:Int,e = .returned (.int .i64 j) ∧ decide (0 ≤ j) = β ∧ Grow w w'
theorem indexw_any (A:Option Addr) (n c:Nat) (l:List (Int × Int)) (w:World) (hn:l.length = n) (hm:n ≤ 9223372036854775807) (hi:∀ x ∈ l,In x.1 ∧ In x.2) (hr:Decs w w.heap.size A l) :
  Calls Tryz.prog 85 #[.slice A n c,.func (.func 43) #[] #[]] w (FindsD (!(l.all decB)) w):=by
 have HR:=Hh hr;have HN:=Hh hn;have HI:=Hh hi;clear hr hn hi
 go_enter Tryz.func85,Tryz.ntmps85
 go_wp2
 go_loopg [8] n (fun g s8 wr => ∃ k:Nat,k ≤ n ∧ g = n - k ∧ s8 = .int .i64 k ∧ Hid ((l.drop k).all decB = l.all decB) ∧ Hid (Grow w wr))
 case atStart => exact ⟨0,Nat.zero_le _,rfl,rfl,Hh rfl,Hh (Grow.refl _)⟩
 case round =>
  obtain ⟨k,hk,rfl,rfl,HA,HG⟩:=hrel
  by_cases hlt:k < n
  ·have hlti:((k:Nat):Int) < ((n:Nat):Int):=by omega
   have hkl:k < l.length:=by rw [HN.out];exact hlt
   obtain ⟨b,off,rfl,hb,hcl⟩:=HR.out.grow HG.out (by omega)
   obtain ⟨hc1,hc2⟩:=hcl k hkl;have HT:=Hh (fun h => alld_drop (p:=decB) hkl h);have HF:=Hh (fun h => alld_fails (p:=decB) hkl h);have hin:=in_at HI.out k;clear hcl hkl hb;generalize l.getD k (0,0) = x at hc1 hc2 HT HF hin;obtain ⟨x1,x2⟩:=x;dsimp only at hc1 hc2 hin;have HC:=Hh (wrong1_any x1 x2 wr hin.1 hin.2)
   cases hx:decB (x1,x2) with
   | true =>
    have HT':=Hh (HT.out hx);rw [hx] at HC;clear hx HT HF hin;go_wp2_with (go_at_call 43;refine (HC.out).mono ?_;rintro e w2 ⟨rfl,hb2⟩)
    go_roundg (n - (k + 1))
    case rel => exact ⟨k + 1,by omega,rfl,by go_num,Hh (HT'.out.symm.trans HA.out),Hh (HG.out.trans hb2)⟩
    case measure => omega
   | false =>
    have HF':=Hh (HF.out hx);rw [hx] at HC;clear hx HT HF hin;go_wp2_with (go_at_call 43;refine (HC.out).mono ?_;rintro e w2 ⟨rfl,hb2⟩)
    go_ret;refine ⟨_,rfl,?_,HG.out.trans hb2⟩;rw [← HA.out,HF'.out];simp
  ·obtain rfl:n = k:=by omega
   have HF:=Hh (show l.all decB = true by rw [← HA.out,List.drop_of_length_le (by rw [HN.out];exact Nat.le_refl _)];rfl)
   go_wp2;go_ret;refine ⟨_,rfl,?_,HG.out⟩;rw [HF.out];rfl
theorem containsw_any (A:Option Addr) (n c:Nat) (l:List (Int × Int)) (w:World) (hn:l.length = n) (hm:n ≤ 9223372036854775807) (hi:∀ x ∈ l,In x.1 ∧ In x.2) (hr:Decs w w.heap.size A l) :
  Calls Tryz.prog 44 #[.slice A n c,.func (.func 43) #[] #[]] w (Says (!(l.all decB)) w):=by
 have HI:=Hh (indexw_any A n c l w hn hm hi hr);clear hn hr hi;generalize l.all decB = β at *
 go_enter Tryz.func44,Tryz.ntmps44
 go_wp2_with fail;refine (HI.out).mono ?_;rintro e w2 ⟨j,rfl,hj,hg⟩
 cases β with
 | false =>
  have hj':(0:Int) ≤ j:=by simpa using hj
  clear hj;go_wp2;go_ret;exact ⟨by simp [hj'],hg⟩
 | true =>
  have hj':¬ (0:Int) ≤ j:=by simpa using hj
  clear hj;go_wp2;go_ret;exact ⟨by simp [hj'],hg⟩
theorem Copied.cells {w:World} {g:Nat} {ns:List Nd} (h:Copied w g ns) {k:Nat} (hk:k < ns.length):∃ b1 b2 b3,w.cell? ⟨g,k * 4,none⟩ = some (.int .i64 (ns.getD k nd0).kind) ∧
  w.cell? ⟨g,k * 4 + 1,none⟩ = some (.slice (some ⟨b1,0,none⟩) (ns.getD k nd0).shp.length (ns.getD k nd0).shp.length) ∧ w.cell? ⟨g,k * 4 + 2,none⟩ = some (.slice (some ⟨b2,0,none⟩) (ns.getD k nd0).ints.length (ns.getD k nd0).ints.length) ∧
  w.cell? ⟨g,k * 4 + 3,none⟩ = some (.slice (some ⟨b3,0,none⟩) (ns.getD k nd0).decs.length (ns.getD k nd0).decs.length) ∧ NumsT (fun b => g < b) w (some ⟨b1,0,none⟩) (ns.getD k nd0).shp ∧ NumsT (fun b => g < b) w (some ⟨b2,0,none⟩) (ns.getD k nd0).ints ∧ DecsT (fun b => g < b) w (some ⟨b3,0,none⟩) (ns.getD k nd0).decs:=by
 obtain ⟨f,hr,ho⟩:=h;obtain ⟨b1,b2,b3,g1,g2,g3,h0,h1,h2,h3,r1,r2,r3⟩:=ho k hk;refine ⟨b1,b2,b3,by rw [hr.cell (by omega),h0],by rw [hr.cell (by omega),h1],by rw [hr.cell (by omega),h2],by rw [hr.cell (by omega),h3],?_,?_,?_⟩
 ·intro hp
  obtain ⟨b,off,e,hb,hc⟩:=nums_cells r1 hp
  cases e
  exact ⟨b1,0,rfl,g1,hc⟩
 ·intro hp
  obtain ⟨b,off,e,hb,hc⟩:=nums_cells r2 hp
  cases e
  exact ⟨b2,0,rfl,g2,hc⟩
 ·intro hp
  obtain ⟨b,off,e,hb,hc⟩:=decs_cells r3 hp
  cases e
  exact ⟨b3,0,rfl,g3,hc⟩
theorem tnumbers_any (A1:Option Addr) (n1 c1:Nat) (s:List Int) (A:Option Addr) (n c:Nat) (l:List (Int × Int)) (w:World) (hs:s.length = n1) (hs1:n1 ≤ 1100000) (hsh:Nums .i64 w w.heap.size A1 s)
  (hn:l.length = n) (hm:n ≤ 1100000) (hi:∀ x ∈ l,In x.1 ∧ In x.2) (hr:Decs w w.heap.size A l) :
  Calls Tryz.prog 21 #[.slice A1 n1 c1,.slice A n c] w (OneP (fun b => w.heap.size ≤ b) (numO s l) w):=by
 obtain ⟨rb,hrb⟩:∃ rb,w.heap.size = rb:=⟨_,rfl⟩;have hbx:=boxN_new w 0 none 0 0 none 0 0 none 0 0;rw [hrb] at hbx;have hg1:=grow_new w (.cells #[.int .i64 0,.slice none 0 0,.slice none 0 0,.slice none 0 0] 34);have HC:=Hh (fun W h => count_any A1 n1 c1 s W hs (by omega) h)
 have HW:=Hh (fun W h => containsw_any A n c l W hn (by omega) hi h)
 have HL:=Hh (fun W (h1:Nums .i64 W W.heap.size A1 s) (h2:Decs W W.heap.size A l) => least_any (fun _ => True) A1 n1 c1 s A n c l W (fun _ _ => trivial) hs (h1.nt (fun _ _ => trivial)) hn hm hi (h2.dt (fun _ _ => trivial)));have HO:Hid (numO s l = if rightB s = true ∧ cnt s = n ∧ l.all decB = true then some (leastN s l) else none):=Hh (by unfold numO;rw [hn])
 have HLF:Hid (rightB s = true → cnt s = n → l.all decB = true → Fit (leastN s l) ∧ okB (leastN s l) = true):=Hh (fun h1 h2 h3 => by
  obtain ⟨k1,k2,k3,k4,k5,_⟩:=least_facts h1 (by rw [hn];exact h2) h3 hi (by omega)
  exact ⟨k5,k1⟩)
 have HS0:=Hh (hsh.grow hg1);have HD0:=Hh (hr.grow hg1);have HRB:=Hh hrb;have HBX:=Hh hbx;have HG1:=Hh hg1;have hcb:=cnt_le1 s;clear hbx hg1 hs hsh hn hi hr;generalize rightB s = β at *;generalize cnt s = cs at *;generalize l.all decB = γ at *
 by_cases hnc:n = cs
 rotate_left
 ·have hne:(((n:Nat):Int) != ((cs:Nat):Int)) = true:=by simp;omega
  have HN:Hid (numO s l = none):=Hh (by rw [HO.out,if_neg];rintro ⟨_,h,_⟩;exact hnc h.symm)
  cases β with
  | false =>
   go_enter Tryz.func21,Tryz.ntmps21
   go_wp2_with fail;refine (HC.out _ HS0.out).mono ?_;rintro e w2 ⟨rfl,rfl⟩;go_wp2;have hb:=boxN_new w 0 none 0 0 none 0 0 none 0 0;rw [HRB.out] at hb;refine bodyPost_ret (v:=.tuple #[.agg #[.int .i64 0,.slice none 0 0,.slice none 0 0,.slice none 0 0],.bool false]) (by simp [results,Tryz.results21,go_sem,hb.at0,hb.at1,hb.at2,hb.at3]) rfl ?_
   exact OneP.no HN.out HG1.out
  | true =>
   go_enter Tryz.func21,Tryz.ntmps21
   go_wp2_with fail;refine (HC.out _ HS0.out).mono ?_;rintro e w2 ⟨rfl,rfl⟩;go_wp2;have hb:=boxN_new w 0 none 0 0 none 0 0 none 0 0;rw [HRB.out] at hb;refine bodyPost_ret (v:=.tuple #[.agg #[.int .i64 0,.slice none 0 0,.slice none 0 0,.slice none 0 0],.bool false]) (by simp [results,Tryz.results21,go_sem,hb.at0,hb.at1,hb.at2,hb.at3]) rfl ?_
   exact OneP.no HN.out HG1.out
 ·subst hnc
  have hne:(((n:Nat):Int) != ((n:Nat):Int)) = false:=by simp
  cases β with
  | false =>
   have HN:Hid (numO s l = none):=Hh (by rw [HO.out,if_neg];rintro ⟨h,_,_⟩;cases h)
   go_enter Tryz.func21,Tryz.ntmps21
   go_wp2_with fail;refine (HC.out _ HS0.out).mono ?_;rintro e w2 ⟨rfl,rfl⟩;go_wp2;have hb:=boxN_new w 0 none 0 0 none 0 0 none 0 0;rw [HRB.out] at hb;refine bodyPost_ret (v:=.tuple #[.agg #[.int .i64 0,.slice none 0 0,.slice none 0 0,.slice none 0 0],.bool false]) (by simp [results,Tryz.results21,go_sem,hb.at0,hb.at1,hb.at2,hb.at3]) rfl ?_
   exact OneP.no HN.out HG1.out
  | true =>
   cases γ with
   | false =>
    have HN:Hid (numO s l = none):=Hh (by rw [HO.out,if_neg];rintro ⟨_,_,h⟩;cases h)
    go_enter Tryz.func21,Tryz.ntmps21
    go_wp2_with fail;refine (HC.out _ HS0.out).mono ?_;rintro e w2 ⟨rfl,rfl⟩;go_wp2_with fail;refine (HW.out _ HD0.out).mono ?_;rintro x w2 ⟨rfl,hw2⟩;have HB2:=Hh (HBX.out.grow hw2);have HG2:=Hh (HG1.out.trans hw2);have HS2:=Hh (HS0.out.grow hw2);have HD2:=Hh (HD0.out.grow hw2);clear hw2 HW;have hbx:=HB2.out;have f0:=hbx.froz 0;have f1:=hbx.froz 1;have f2:=hbx.froz 2;have f3:=hbx.froz 3;have d0:=hbx.at0;have d1:=hbx.at1;have d2:=hbx.at2;have d3:=hbx.at3;clear hbx;go_wp2;have hle:w.heap.size ≤ rb:=by rw [HRB.out];exact Nat.le_refl _
    have hb:=HB2.out.store 0 none none none 0 0 0 0 0 0;have hg:=(((HG2.out.put hle 0 (.int .i64 0)).put hle 1 (.slice none 0 0)).put hle 2 (.slice none 0 0)).put hle 3 (.slice none 0 0);refine bodyPost_ret (v:=.tuple #[.agg #[.int .i64 0,.slice none 0 0,.slice none 0 0,.slice none 0 0],.bool false]) (by simp [results,Tryz.results21,go_sem,hb.at0,hb.at1,hb.at2,hb.at3]) rfl ?_
    exact OneP.no HN.out hg
   | true =>
    have HN:Hid (numO s l = some (leastN s l)):=Hh (by rw [HO.out,if_pos ⟨rfl,rfl,rfl⟩])
    have HFM:=Hh (HLF.out rfl rfl rfl).1;clear HLF HO
    go_enter Tryz.func21,Tryz.ntmps21
    go_wp2_with fail;refine (HC.out _ HS0.out).mono ?_;rintro e w2 ⟨rfl,rfl⟩;go_wp2_with fail;refine (HW.out _ HD0.out).mono ?_;rintro x w2 ⟨rfl,hw2⟩;have HB2:=Hh (HBX.out.grow hw2);have HG2:=Hh (HG1.out.trans hw2);have HS2:=Hh (HS0.out.grow hw2);have HD2:=Hh (HD0.out.grow hw2);clear hw2 HW;go_wp2_with fail;refine (HL.out _ HS2.out HD2.out).mono ?_;rintro x w3 ⟨v,rfl,⟨B1,k1,B2,k2,B3,k3,rfl,m1,m2,m3⟩,hw3⟩;have HB3:=Hh (HB2.out.grow hw3);have HG3:=Hh (HG2.out.trans hw3);clear hw3 HL;generalize leastN s l = m at *;have HND:=Hh (show IsNd w3 w3.heap.size B1 B2 B3 m from ⟨m1.nums,m2.nums,m3.decs⟩);clear m1 m2 m3;obtain ⟨l1,hl1⟩:∃ l1,m.shp.length = l1:=⟨_,rfl⟩;obtain ⟨l2,hl2⟩:∃ l2,m.ints.length = l2:=⟨_,rfl⟩;obtain ⟨l3,hl3⟩:∃ l3,m.decs.length = l3:=⟨_,rfl⟩;have HL1:=Hh hl1;have HL2:=Hh hl2;have HL3:=Hh hl3;rw [hl1,hl2,hl3];clear hl1 hl2 hl3;have HNL:=Hh (node_lit w3 m.kind B1 l1 k1 B2 l2 k2 B3 l3 k3 m rfl HL1.out HL2.out HL3.out HND.out);have HG4:=Hh (grow_new w3 (.cells #[.int .i64 m.kind,.slice B1 l1 k1,.slice B2 l2 k2,.slice B3 l3 k3] 34));have HCP:=Hh (copy_any (some ⟨w3.heap.size,0,none⟩) 1 1 [m] _ rfl (by decide) (fitsOne HFM.out) HNL.out)
    go_wp2_with fail;refine (HCP.out).mono ?_;rintro x w5 ⟨rfl,hcp,hw5⟩;have HB5:=Hh ((HB3.out.grow HG4.out).grow hw5);have HG5:=Hh ((HG3.out.trans HG4.out).trans hw5);obtain ⟨z,hz⟩:∃ z,(w3.alloc (.cells #[.int .i64 m.kind,.slice B1 l1 k1,.slice B2 l2 k2,.slice B3 l3 k3] 34)).heap.size = z:=⟨_,rfl⟩;have HZ:Hid (rb < z):=Hh (by rw [← hz];exact (HB3.out.grow HG4.out).lt)
    rw [hz] at hcp ⊢;obtain ⟨b1,b2,b3,q0,q1,q2,q3,t1,t2,t3⟩:=hcp.cells (k:=0) (Nat.lt_succ_self 0);rw [show [m].getD 0 nd0 = m from rfl,Nat.zero_mul] at q0 q1 q2 q3;rw [show [m].getD 0 nd0 = m from rfl] at t1 t2 t3;rw [Nat.zero_add] at q1 q2 q3;rw [HL1.out] at q1;rw [HL2.out] at q2;rw [HL3.out] at q3;have T1:=Hh t1;have T2:=Hh t2;have T3:=Hh t3;clear hw5 hcp hz t1 t2 t3 HCP HNL;have hbx:=HB5.out;have f0:=hbx.froz 0;have f1:=hbx.froz 1;have f2:=hbx.froz 2;have f3:=hbx.froz 3;have d0:=hbx.at0;have d1:=hbx.at1;have d2:=hbx.at2;have d3:=hbx.at3;clear hbx;go_wp2;have hle:w.heap.size ≤ rb:=by rw [HRB.out];exact Nat.le_refl _
    have hb:=HB5.out.store m.kind (some ⟨b1,0,none⟩) (some ⟨b2,0,none⟩) (some ⟨b3,0,none⟩) l1 l1 l2 l2 l3 l3;have hg:=(((HG5.out.put hle 0 (.int .i64 m.kind)).put hle 1 (.slice (some ⟨b1,0,none⟩) l1 l1)).put hle 2 (.slice (some ⟨b2,0,none⟩) l2 l2)).put hle 3 (.slice (some ⟨b3,0,none⟩) l3 l3);have hkp:∀ b,z < b ∧ b < w5.heap.size → w.heap.size ≤ b ∧ ((((w5.setCell ⟨rb,0,none⟩ (.int .i64 m.kind)).setCell ⟨rb,1,none⟩ (.slice (some ⟨b1,0,none⟩) l1 l1)).setCell ⟨rb,2,none⟩ (.slice (some ⟨b2,0,none⟩) l2 l2)).setCell ⟨rb,3,none⟩ (.slice (some ⟨b3,0,none⟩) l3 l3)).heap[b]? = w5.heap[b]?:=fun b hb => ⟨by have h1:=hb.1;have h2:=HZ.out;rw [HRB.out];omega,(kept_store (w:=w5) (b:=rb) _ _ _ _).block b hb.2 (by have h1:=hb.1;have h2:=HZ.out;show ¬ b = rb;omega)⟩
    refine bodyPost_ret (v:=.tuple #[.agg #[.int .i64 m.kind,.slice (some ⟨b1,0,none⟩) l1 l1,.slice (some ⟨b2,0,none⟩) l2 l2,.slice (some ⟨b3,0,none⟩) l3 l3],.bool true]) (by simp [results,Tryz.results21,go_sem,hb.at0,hb.at1,hb.at2,hb.at3]) rfl ?_
    exact OneP.yes HN.out hg ⟨_,_,_,_,_,_,by rw [HL1.out,HL2.out,HL3.out],T1.out.lt.keep hkp,T2.out.lt.keep hkp,T3.out.lt.keep hkp⟩
end Go.Proofs.YteoogioanjkacaaGreatDoor
