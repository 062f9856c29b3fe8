/-
  Contracts, joined: NRDigs, NRTexts, NRPieces, QRBytes, QRText, DWrite, DWrite2, DText, NScan, NRTake, NRParse. Nothing is claimed here by itself.
-/
import Derived.Test.YteoogioanjkacaaGreatDoorU01
import Derived.Test.YteoogioanjkacaaGreatDoorU04
import Derived.Test.YteoogioanjkacaaGreatDoorU07
import Derived.Test.YteoogioanjkacaaGreatDoorU08
import Derived.Test.YteoogioanjkacaaGreatDoorU10
import Derived.Test.YteoogioanjkacaaGreatDoorU11
import Derived.Test.YteoogioanjkacaaGreatDoorU12
import Derived.Deep.CutBlock
import Derived.Deep.DeepCutAuto
set_option maxRecDepth 100000
set_option maxHeartbeats 12800000
set_option linter.unusedSimpArgs false
set_option linter.unusedVariables false
namespace Go.Proofs.YteoogioanjkacaaGreatDoor.Num
open Go.RowKit Go.Lib
theorem rsize_any (n:Int) (w:World) (hn:In n) :
  Calls Tryz.prog 143 #[.int .i64 n] w fun e w' => e = .returned (.int .u64 n.natAbs) ∧ w' = w:=by
 have h1:=hn.1;have h2:=hn.2
 by_cases h:n < 0
 ·have hw:IntKind.i64.wrap (-(n + 1)) = -(n + 1):=by rw [IntKind.wrap_i64];omega
  have hw2:IntKind.u64.wrap (-(n + 1)) = -(n + 1):=by rw [IntKind.wrap_u64];omega
  have hw3:IntKind.u64.wrap (-(n + 1) + 1) = (n.natAbs:Int):=by rw [IntKind.wrap_u64];omega
  go_enter Tryz.func143,Tryz.ntmps143
  go_wp2;go_ret;exact ⟨rfl,rfl⟩
 ·have hw:IntKind.u64.wrap n = (n.natAbs:Int):=by rw [IntKind.wrap_u64];omega
  go_enter Tryz.func143,Tryz.ntmps143
  go_wp2;go_ret;exact ⟨rfl,rfl⟩
theorem conv_one (b:Nat) (wg:World) (c:UInt8) (x:Int) (hx:x = (c.toNat:Nat)) (h:wg.cell? ⟨b,0,none⟩ = some (.int .u8 x)) :
  (convert 57 9 (.slice (some ⟨b,0,none⟩) 1 1)).run Tryz.prog wg = .ok (.string ⟨#[c]⟩) wg:=by
 subst hx
 exact run_convert_bytes_back (P:=Tryz.prog) wg 57 9 5 ⟨b,0,none⟩ 1 [c] (by kernel_rfl) (by kernel_rfl) (by kernel_rfl) (fun j hj => by
  obtain rfl:j = 0:=by simpa using hj
  rw [Lib.add_plain]
  exact h)
theorem digits_any (u:Nat) (hu:u < 18446744073709551616) (w:World) :
  Calls Tryz.prog 142 #[.int .u64 (u:Nat)] w fun e w' => e = .returned (.string ⟨(decDigits u).toArray⟩) ∧ Grow w w':=by
 induction u using Nat.strongRecOn generalizing w with
 | _ u ih =>
  by_cases h:u < 10
  ·obtain ⟨c,hc⟩:∃ c,UInt8.ofNat (48 + u) = c:=⟨_,rfl⟩
   have HD:=Hh (dd_small h);rw [hc] at HD;have hcv:=conv_one w.heap.size (w.alloc (.cells #[.int .u8 (48 + (u:Nat))] 5)) c (48 + (u:Nat)) (by rw [← hc,dig_nat h];rfl) (by simp)
   clear ih hc
   go_enter Tryz.func142,Tryz.ntmps142
   go_wp2;go_ret;exact ⟨by rw [HD.out];rfl,grow_new _ _⟩
  ·have hdd:=dd_big h
   have HI:Hid (∀ W,Calls Tryz.prog 142 #[.int .u64 ((u:Int) / 10)] W fun e w' => e = .returned (.string ⟨(decDigits (u / 10)).toArray⟩) ∧ Grow W w') :=
    Hh (fun W => by have h:=ih (u / 10) (by omega) (by omega) W;rw [Int.natCast_ediv] at h;exact h)
   have hl:¬ 9223372036854775807 < (decDigits (u / 10)).length + 1:=by
    have hp:(10:Nat) ^ 20 = 100000000000000000000:=by decide
    have:=dd_len (u:=u / 10) (k:=20) (by omega) (by omega)
    omega
   obtain ⟨c,hc⟩:∃ c,UInt8.ofNat (48 + u % 10) = c:=⟨_,rfl⟩;have HX:Hid ((48 + (u:Int) % 10) = (c.toNat:Nat)):=Hh (by rw [← hc,dig_nat (by omega)];omega)
   rw [hc] at hdd;have hw0:IntKind.u64.wrap ((u:Int) / 10) = (u:Int) / 10:=by rw [IntKind.wrap_u64];omega
   have htm:(u:Int).tmod 10 = (u:Int) % 10:=Int.tmod_eq_emod_of_nonneg (by omega)
   have hw1:IntKind.u64.wrap (48 + (u:Int) % 10) = 48 + (u:Int) % 10:=by rw [IntKind.wrap_u64];omega
   have hw2:IntKind.u8.wrap (48 + (u:Int) % 10) = 48 + (u:Int) % 10:=by simp [IntKind.wrap,IntKind.bits,IntKind.signed];omega
   generalize decDigits (u / 10) = d at *;have HD:=Hh hdd;clear ih hc hdd
   go_enter Tryz.func142,Tryz.ntmps142
   go_wp2;refine wp_region_R Grow (n:=11) rfl (by kernel_rfl) ?_
   intro W0 hW0e hW0;have hG0:Grow w W0:=hW0;clear hW0e;refine wpR_take growOrd (i:=0) (v:=?vf1) rfl (by kernel_rfl) (by kernel_rfl) (by kernel_rfl) (fun _ _ _ h => h) (by rfl) ?hf1 ?rf1
   case hf1 => (intro wg hSw;go_simp <;> with_reducible rfl)
   simp only [Act.put,List.setIfInBounds_toArray,List.set_cons_zero,List.set_cons_succ];refine wpR_take growOrd (i:=1) (v:=?vf2) rfl (by kernel_rfl) (by kernel_rfl) (by kernel_rfl) (fun _ _ _ h => h) (by rfl) ?hf2 ?rf2
   case hf2 => (intro wg hSw;go_simp <;> with_reducible rfl)
   simp only [Act.put,List.setIfInBounds_toArray,List.set_cons_zero,List.set_cons_succ];refine wpR_take growOrd (i:=3) (v:=?vf3) rfl (by kernel_rfl) (by kernel_rfl) (by kernel_rfl) (fun _ _ _ h => h) (by rfl) ?hf3 ?rf3
   case hf3 => (intro wg hSw;go_simp <;> with_reducible rfl)
   simp only [Act.put,List.setIfInBounds_toArray,List.set_cons_zero,List.set_cons_succ];refine wpR_take growOrd (i:=4) (v:=?vf4) rfl (by kernel_rfl) (by kernel_rfl) (by kernel_rfl) (fun _ _ _ h => h) (by rfl) ?hf4 ?rf4
   case hf4 => (intro wg hSw;go_simp <;> with_reducible rfl)
   simp only [Act.put,List.setIfInBounds_toArray,List.set_cons_zero,List.set_cons_succ];refine wpR_take growOrd (i:=5) (v:=?vf5) rfl (by kernel_rfl) (by kernel_rfl) (by kernel_rfl) (fun _ _ _ h => h) (by rfl) ?hf5 ?rf5
   case hf5 => (intro wg hSw;go_simp <;> with_reducible rfl)
   simp only [Act.put,List.setIfInBounds_toArray,List.set_cons_zero,List.set_cons_succ];refine wpR_take growOrd (i:=6) (v:=?vf6) rfl (by kernel_rfl) (by kernel_rfl) (by kernel_rfl) (fun _ _ _ h => h) (by rfl) ?hf6 ?rf6
   case hf6 => (intro wg hSw;go_simp <;> with_reducible rfl)
   simp only [Act.put,List.setIfInBounds_toArray,List.set_cons_zero,List.set_cons_succ];refine wpR_two (i:=2) (j:=7) (by kernel_rfl) ?_ ?_
   ·refine wpR_op (i:=2) rfl (by rfl) (fun K hK => ?_)
    go_simp;refine (HI.out W0).mono ?_;rintro x wM2 ⟨rfl,hM2⟩;refine hK.out _ _ hM2 ?_;clear hK K
    try simp only [Act.put,List.setIfInBounds_toArray,List.set_cons_zero,List.set_cons_succ]
    refine wpR_one (i:=7) (by kernel_rfl) ?_
    refine wpR_op (i:=7) rfl (by rfl) (fun K hK => ?_)
    go_simp;refine hK.out _ _ (grow_new _ _) ?_;clear hK K
    try simp only [Act.put,List.setIfInBounds_toArray,List.set_cons_zero,List.set_cons_succ]
    generalize hwM7:World.alloc wM2 (Obj.cells _ 5) = wM7;have hM7:Grow wM2 wM7:=by rw [← hwM7];exact grow_new _ _
    have hcv:∀ wg,Grow wM7 wg → (convert 57 9 (.slice (some ⟨(wM2).heap.size,0,none⟩) 1 1)).run Tryz.prog wg = .ok (.string ⟨#[c]⟩) wg:=fun wg hg =>
     conv_one _ wg c _ HX.out (by
      have hlt:(wM2).heap.size < wM7.heap.size:=by rw [← hwM7];simp
      rw [hg.cell (p:=⟨(wM2).heap.size,0,none⟩) hlt,← hwM7]
      simp)
    clear hwM7;refine wpR_take growOrd (i:=8) (v:=?vf7) rfl (by kernel_rfl) (by kernel_rfl) (by kernel_rfl) (fun _ _ _ h => h) (by rfl) ?hf7 ?rf7
    case hf7 => (intro wg hSw;go_simp <;> with_reducible rfl)
    simp only [Act.put,List.setIfInBounds_toArray,List.set_cons_zero,List.set_cons_succ];refine wpR_take growOrd (i:=9) (v:=?vf8) rfl (by kernel_rfl) (by kernel_rfl) (by kernel_rfl) (fun _ _ _ h => h) (by rfl) ?hf8 ?rf8
    case hf8 => (intro wg hSw;go_simp <;> with_reducible rfl)
    simp only [Act.put,List.setIfInBounds_toArray,List.set_cons_zero,List.set_cons_succ];refine wpR_take growOrd (i:=10) (v:=?vf9) rfl (by kernel_rfl) (by kernel_rfl) (by kernel_rfl) (fun _ _ _ h => h) (by rfl) ?hf9 ?rf9
    case hf9 => (intro wg hSw;go_simp <;> with_reducible rfl)
    simp only [Act.put,List.setIfInBounds_toArray,List.set_cons_zero,List.set_cons_succ];refine wpR_done (by kernel_rfl) ?_
    go_wp2;go_ret;exact ⟨by rw [HD.out];exact congrArg (fun s => Ending.returned (Value.string s)) (str_app _ [_]),hG0.trans (Grow.trans (Grow.trans (Grow.refl W0) hM2) hM7)⟩
   ·refine wpR_op (i:=7) rfl (by rfl) (fun K hK => ?_)
    go_simp;refine hK.out _ _ (grow_new _ _) ?_;clear hK K
    try simp only [Act.put,List.setIfInBounds_toArray,List.set_cons_zero,List.set_cons_succ]
    generalize hwM7:World.alloc W0 (Obj.cells _ 5) = wM7;have hM7:Grow W0 wM7:=by rw [← hwM7];exact grow_new _ _
    have hcv:∀ wg,Grow wM7 wg → (convert 57 9 (.slice (some ⟨(W0).heap.size,0,none⟩) 1 1)).run Tryz.prog wg = .ok (.string ⟨#[c]⟩) wg:=fun wg hg =>
     conv_one _ wg c _ HX.out (by
      have hlt:(W0).heap.size < wM7.heap.size:=by rw [← hwM7];simp
      rw [hg.cell (p:=⟨(W0).heap.size,0,none⟩) hlt,← hwM7]
      simp)
    clear hwM7;refine wpR_take growOrd (i:=8) (v:=?vf10) rfl (by kernel_rfl) (by kernel_rfl) (by kernel_rfl) (fun _ _ _ h => h) (by rfl) ?hf10 ?rf10
    case hf10 => (intro wg hSw;go_simp <;> with_reducible rfl)
    simp only [Act.put,List.setIfInBounds_toArray,List.set_cons_zero,List.set_cons_succ];refine wpR_one (i:=2) (by kernel_rfl) ?_
    refine wpR_op (i:=2) rfl (by rfl) (fun K hK => ?_)
    go_simp;refine (HI.out wM7).mono ?_;rintro x wM2 ⟨rfl,hM2⟩;refine hK.out _ _ hM2 ?_;clear hK K
    try simp only [Act.put,List.setIfInBounds_toArray,List.set_cons_zero,List.set_cons_succ]
    refine wpR_take growOrd (i:=9) (v:=?vf11) rfl (by kernel_rfl) (by kernel_rfl) (by kernel_rfl) (fun _ _ _ h => h) (by rfl) ?hf11 ?rf11
    case hf11 => (intro wg hSw;go_simp <;> with_reducible rfl)
    simp only [Act.put,List.setIfInBounds_toArray,List.set_cons_zero,List.set_cons_succ];refine wpR_take growOrd (i:=10) (v:=?vf12) rfl (by kernel_rfl) (by kernel_rfl) (by kernel_rfl) (fun _ _ _ h => h) (by rfl) ?hf12 ?rf12
    case hf12 => (intro wg hSw;go_simp <;> with_reducible rfl)
    simp only [Act.put,List.setIfInBounds_toArray,List.set_cons_zero,List.set_cons_succ];refine wpR_done (by kernel_rfl) ?_
    go_wp2;go_ret;exact ⟨by rw [HD.out];exact congrArg (fun s => Ending.returned (Value.string s)) (str_app _ [_]),hG0.trans (Grow.trans (Grow.trans (Grow.refl W0) hM7) hM2)⟩
open Go.RowKit Go.Lib
theorem rnumber_any (n:Int) (w:World) (hn:In n) :
  Calls Tryz.prog 110 #[.int .i64 n] w fun e w' => e = .returned (.string ⟨(num n).toArray⟩) ∧ Grow w w':=by
 have HS:=Hh (rsize_any n w hn);have h1:=hn.1;have h2:=hn.2
 have HF:=Hh (digits_any n.natAbs (by omega) w)
 have hl:¬ 9223372036854775807 < 2 + (decDigits n.natAbs).length:=by
  have hp:(10:Nat) ^ 19 = 10000000000000000000:=by decide
  have:=dd_len (u:=n.natAbs) (k:=19) (by omega) (by omega)
  omega
 clear hn h1 h2
 by_cases h:n < 0
 ·have HN:=Hh (num_neg h)
  go_enter Tryz.func110,Tryz.ntmps110
  go_wp2_with fail;refine (HS.out).mono ?_;rintro e w' ⟨rfl,rfl⟩;go_wp2_with fail;refine (HF.out).mono ?_;rintro e w1 ⟨rfl,hg⟩;have HG:=Hh hg;clear hg HS HF;go_wp2;go_ret;exact ⟨by rw [HN.out];exact congrArg (fun s => Ending.returned (Value.string s)) (str_app [194,175] _),HG.out⟩
 ·have HN:=Hh (num_pos h)
  go_enter Tryz.func110,Tryz.ntmps110
  go_wp2_with fail;refine (HS.out).mono ?_;rintro e w' ⟨rfl,rfl⟩;go_wp2_with fail;refine (HF.out).mono ?_;rintro e w1 ⟨rfl,hg⟩;have HG:=Hh hg;clear hg HS HF;go_wp2;go_ret;exact ⟨by rw [HN.out];rfl,HG.out⟩
theorem rtext_any (m e:Int) (w:World) (hm:In m) (he:In e) :
  Calls Tryz.prog 141 #[.agg #[.int .i64 m,.int .i64 e]] w fun x w' => x = .returned (.string ⟨(text m e).toArray⟩) ∧ Grow w w':=by
 have HC:=Hh (fun W => rright_any m e W hm he);have HD:=Hh (fun W (n:Int) (hn:In n) => rnumber_any n W hn);have HM:=Hh hm;have HE:=Hh he;clear hm he
 go_enter Tryz.func141,Tryz.ntmps141
 go_wp2_with fail;refine (HC.out _).mono ?_;rintro x w1 ⟨rfl,hg⟩;have hb:=(boxed_new w (.int .i64 m) (.int .i64 e) 41).grow hg;have hc0:=hb.fst;have hc1:=hb.snd;have HB:=Hh hb;have HG:=Hh ((grow_new w _).trans hg);clear hb hg HC;obtain ⟨r,hr⟩:∃ r,rightD m e = r:=⟨_,rfl⟩;rw [hr]
 cases r
 ·have HT:=Hh (text_wrong hr)
  clear hr;go_wp2;go_ret;exact ⟨by rw [HT.out];rfl,HG.out⟩
 ·by_cases h0:e = 0
  ·subst h0
   have HT:=Hh (text_plain hr);clear hr;go_wp2_with fail;refine (HD.out _ m HM.out).mono ?_;rintro x w2 ⟨rfl,hg2⟩;have HG2:=Hh (HG.out.trans hg2);clear hg2;go_wp2;go_ret;exact ⟨by rw [HT.out];rfl,HG2.out⟩
  ·have HT:=Hh (text_exp hr h0)
   have h0b:(e == 0) = false:=by simpa using h0
   have hl1:=num_len HM.out;have hl2:=num_len HE.out;have hs1:¬ 9223372036854775807 < (num m).length + 1:=by omega
   have hs2:¬ 9223372036854775807 < (num m).length + 1 + (num e).length:=by omega
   clear hr h0 hl1 hl2;go_wp2;refine wp_region_R Grow (n:=9) rfl (by kernel_rfl) ?_
   intro W0 hW0e hW0;have hG0:Grow w1 W0:=hW0;have hd0:∀ wg,Grow W0 wg → wg.cell? ⟨w.heap.size,0,none⟩ = some (.int .i64 m):=fun wg h => ((HB.out.grow hG0).grow h).fst;have hd1:∀ wg,Grow W0 wg → wg.cell? ⟨w.heap.size,1,none⟩ = some (.int .i64 e):=fun wg h => ((HB.out.grow hG0).grow h).snd;clear hW0e;refine wpR_take growOrd (i:=0) (v:=?vf1) rfl (by kernel_rfl) (by kernel_rfl) (by kernel_rfl) (fun _ _ _ h => h) (by rfl) ?hf1 ?rf1
   case hf1 => (intro wg hSw;go_simp <;> with_reducible rfl)
   simp only [Act.put,List.setIfInBounds_toArray,List.set_cons_zero,List.set_cons_succ];refine wpR_take growOrd (i:=1) (v:=?vf2) rfl (by kernel_rfl) (by kernel_rfl) (by kernel_rfl) (fun _ _ _ h => h) (by rfl) ?hf2 ?rf2
   case hf2 => (intro wg hSw;go_simp <;> with_reducible rfl)
   simp only [Act.put,List.setIfInBounds_toArray,List.set_cons_zero,List.set_cons_succ];refine wpR_take growOrd (i:=4) (v:=?vf3) rfl (by kernel_rfl) (by kernel_rfl) (by kernel_rfl) (fun _ _ _ h => h) (by rfl) ?hf3 ?rf3
   case hf3 => (intro wg hSw;go_simp <;> with_reducible rfl)
   simp only [Act.put,List.setIfInBounds_toArray,List.set_cons_zero,List.set_cons_succ];refine wpR_take growOrd (i:=5) (v:=?vf4) rfl (by kernel_rfl) (by kernel_rfl) (by kernel_rfl) (fun _ _ _ h => h) (by rfl) ?hf4 ?rf4
   case hf4 => (intro wg hSw;go_simp <;> with_reducible rfl)
   simp only [Act.put,List.setIfInBounds_toArray,List.set_cons_zero,List.set_cons_succ];refine wpR_one (i:=2) (by kernel_rfl) ?_
   refine wpR_op (i:=2) rfl (by rfl) (fun K hK => ?_)
   go_simp;refine (HD.out W0 m HM.out).mono ?_;rintro x wM2 ⟨rfl,hM2⟩;refine hK.out _ _ hM2 ?_;clear hK K
   try simp only [Act.put,List.setIfInBounds_toArray,List.set_cons_zero,List.set_cons_succ]
   refine wpR_take growOrd (i:=3) (v:=?vf5) rfl (by kernel_rfl) (by kernel_rfl) (by kernel_rfl) (fun _ _ _ h => h) (by rfl) ?hf5 ?rf5
   case hf5 => (intro wg hSw;go_simp <;> with_reducible rfl)
   simp only [Act.put,List.setIfInBounds_toArray,List.set_cons_zero,List.set_cons_succ];refine wpR_one (i:=6) (by kernel_rfl) ?_
   refine wpR_op (i:=6) rfl (by rfl) (fun K hK => ?_)
   go_simp;refine (HD.out wM2 e HE.out).mono ?_;rintro x wM6 ⟨rfl,hM6⟩;refine hK.out _ _ hM6 ?_;clear hK K
   try simp only [Act.put,List.setIfInBounds_toArray,List.set_cons_zero,List.set_cons_succ]
   refine wpR_take growOrd (i:=7) (v:=?vf6) rfl (by kernel_rfl) (by kernel_rfl) (by kernel_rfl) (fun _ _ _ h => h) (by rfl) ?hf6 ?rf6
   case hf6 => (intro wg hSw;go_simp <;> with_reducible rfl)
   simp only [Act.put,List.setIfInBounds_toArray,List.set_cons_zero,List.set_cons_succ];refine wpR_take growOrd (i:=8) (v:=?vf7) rfl (by kernel_rfl) (by kernel_rfl) (by kernel_rfl) (fun _ _ _ h => h) (by rfl) ?hf7 ?rf7
   case hf7 => (intro wg hSw;go_simp <;> with_reducible rfl)
   simp only [Act.put,List.setIfInBounds_toArray,List.set_cons_zero,List.set_cons_succ];refine wpR_done (by kernel_rfl) ?_
   go_wp2;go_ret;exact ⟨by rw [HT.out];exact text_join m e,HG.out.trans (hG0.trans (Grow.trans (Grow.trans (Grow.refl W0) hM2) hM6))⟩
open Go.RowKit Go.Lib
theorem slice_mid (l:List UInt8) (i j:Nat) (h1:i ≤ j) (h2:j ≤ l.length) (W:World):(Instr.slice 9 (.string ⟨l.toArray⟩) (some (.int .i64 (i:Nat))) (some (.int .i64 (j:Nat))) none).run Tryz.prog W = .ok (.string ⟨((l.take j).drop i).toArray⟩) W:=by
 have hu:Tryz.prog.underlying 9 = some .string:=by kernel_rfl
 rw [run_slice_string _ _ _ _ _ _ _ hu (by omega) (by omega) (by simp [ByteArray.size];omega)]
 congr 2;exact str_ext (by simp [ByteArray.size];exact (List.drop_take).symm)
theorem npc_ways (c:UInt8) (t:List UInt8):(isPc c = true ∧ npc (c :: t) = npc t + 1) ∨ (isPc c = false ∧ ∃ r,c :: t = 194 :: 175 :: r ∧ npc (c :: t) = npc r + 2) ∨ (isPc c = false ∧ (c :: t).take 2 ≠ [194,175] ∧ npc (c :: t) = 0):=by
 by_cases h:isPc c = true
 ·exact .inl ⟨h,npc_pc h t⟩
 ·have hf:isPc c = false:=by simpa using h
  by_cases h2:c = 194
  ·subst h2
   cases t with
   | nil => exact .inr (.inr ⟨hf,by simp,rfl⟩)
   | cons d t =>
    by_cases h3:d = 175
    ·subst h3
     exact .inr (.inl ⟨hf,t,rfl,npc_sign t⟩)
    ·exact .inr (.inr ⟨hf,by simpa using h3,npc_half h3 t⟩)
  ·exact .inr (.inr ⟨hf,by simp [h2],npc_not hf h2 t⟩)
theorem isPc_nat (c:UInt8):isPc c = ((decide (48 ≤ c.toNat) && decide (c.toNat ≤ 57)) || decide (c.toNat = 69)):=by
 unfold isPc;rw [Bool.or_comm];congr 1;have:(c == 69) = decide (c = 69):=rfl;rw [this]
 by_cases h:c = 69
 ·subst h;rfl
 ·have:¬ c.toNat = 69:=fun e => h (UInt8.toNat_inj.1 e)
  rw [decide_eq_false h,decide_eq_false this]
theorem rpieces_any (l:List UInt8) (hl:l.length ≤ 1000000) (w:World) :
  Calls Tryz.prog 100 #[.string ⟨l.toArray⟩] w fun e w' => e = .returned (.int .i64 (npc l:Nat)) ∧ w' = w:=by
 have hsz:=str_size l
 go_enter Tryz.func100,Tryz.ntmps100
 go_wp2
 go_loopg [3] l.length (fun g s3 wr => ∃ k:Nat,k ≤ l.length ∧ g = l.length - k ∧ s3 = .int .i64 k ∧ Hid (npc l = npc (l.drop k) + k) ∧ w = wr)
 case atStart => exact ⟨0,Nat.zero_le _,rfl,rfl,Hh rfl,rfl⟩
 case round =>
  obtain ⟨k,hk,rfl,rfl,HN,rfl⟩:=hrel
  by_cases hlt:k < l.length
  ·have hlti:((k:Nat):Int) < ((l.length:Nat):Int):=by omega
   have hck:l[k]? = some l[k]:=List.getElem?_eq_getElem hlt;have hix:=index_at hck;have hdk:l.drop k = l[k] :: l.drop (k + 1):=List.drop_eq_getElem_cons hlt;have hw:=npc_ways l[k] (l.drop (k + 1));rw [← hdk] at hw;have hcI:=isPc_nat l[k];have hc256:l[k].toNat < 256:=l[k].toNat_lt;have hmid:k + 2 ≤ l.length → ∀ W,(Instr.slice 9 (.string ⟨l.toArray⟩) (some (.int .i64 (k:Nat))) (some (.int .i64 ((k + 2:Nat):Int))) none).run Tryz.prog W = .ok (.string ⟨((l.drop k).take 2).toArray⟩) W:=fun h W => by
    rw [slice_mid l k (k + 2) (by omega) h W,List.drop_take,Nat.add_sub_cancel_left]
   have hd1:(l.drop (k + 1)) = (l.drop k).drop 1:=by rw [List.drop_drop]
   have hdl:(l.drop k).length = l.length - k:=by simp
   have hd2:l.drop (k + 2) = (l.drop k).drop 2:=by rw [List.drop_drop]
   have hsub:IntKind.i64.wrap (((l.length:Nat):Int) - ((k:Nat):Int)) = ((l.length:Nat):Int) - ((k:Nat):Int):=by rw [IntKind.wrap_i64];omega
   have hadd:IntKind.i64.wrap (((k:Nat):Int) + 2) = ((k + 2:Nat):Int):=by rw [IntKind.wrap_i64];omega
   clear hdk hck
   rcases hw with ⟨hp,hn⟩ | ⟨hp,r,hr,hn⟩ | ⟨hp,hne,hn⟩
   ·have HV:Hid (npc l = npc (l.drop (k + 1)) + (k + 1)):=Hh (by rw [HN.out,hn];omega)
    rw [hp] at hcI;clear HN hn hmid hd1 hd2 hdl hsub hadd hp;generalize l[k].toNat = C at *
    by_cases h48:48 ≤ C
    ·have i48:(48:Int) ≤ ((C:Nat):Int):=by omega
     by_cases h57:C ≤ 57
     ·have i57:((C:Nat):Int) ≤ 57:=by omega
      clear hcI;go_wp2;go_roundg (l.length - (k + 1))
      case rel => exact ⟨k + 1,by omega,rfl,by go_num,HV,rfl⟩
      case measure => omega
     ·have i57:¬ ((C:Nat):Int) ≤ 57:=by omega
      have h69:C = 69:=by
       rw [decide_eq_false h57,Bool.and_false,Bool.false_or] at hcI;exact of_decide_eq_true hcI.symm
      have b69:(((C:Nat):Int) == 69) = true:=by rw [beq_iff_eq];omega
      clear hcI h69;go_wp2;go_roundg (l.length - (k + 1))
      case rel => exact ⟨k + 1,by omega,rfl,by go_num,HV,rfl⟩
      case measure => omega
    ·exfalso
     rw [decide_eq_false h48,Bool.false_and,Bool.false_or] at hcI;have:=of_decide_eq_true hcI.symm;omega
   all_goals
    rw [hp] at hcI;have hnb:=hcI.symm;simp only [Bool.or_eq_false_iff,Bool.and_eq_false_iff,decide_eq_false_iff_not] at hnb;obtain ⟨hnd,hn69⟩:=hnb
   ·have HV:Hid (npc l = npc (l.drop (k + 2)) + (k + 2)):=Hh (by rw [HN.out,hn,hd2,hr];simp;omega)
    have hlen:k + 2 ≤ l.length:=by
     have:=congrArg List.length hr;rw [hdl] at this;simp at this;omega
    have hm:=hmid hlen;rw [hr] at hm;have hm':∀ W,(Instr.slice 9 (.string ⟨l.toArray⟩) (some (.int .i64 (k:Nat))) (some (.int .i64 ((k:Int) + 2))) none).run Tryz.prog W = .ok (.string ⟨#[194,175]⟩) W:=fun W => hm W;have h2i:(2:Int) ≤ ((l.length:Nat):Int) - ((k:Nat):Int):=by omega
    clear HN hn hmid hd1 hd2 hdl hr hp hcI hm;generalize l[k].toNat = C at *;have b69:(((C:Nat):Int) == 69) = false:=by rw [beq_eq_false_iff_ne];omega
    by_cases h48:48 ≤ C
    ·have i48:(48:Int) ≤ ((C:Nat):Int):=by omega
     have i57:¬ ((C:Nat):Int) ≤ 57:=by omega
     clear hnd hn69;go_wp2;go_roundg (l.length - (k + 2))
     case rel => exact ⟨k + 2,by omega,rfl,by go_num,HV,rfl⟩
     case measure => omega
    ·have i48:¬ (48:Int) ≤ ((C:Nat):Int):=by omega
     clear hnd hn69;go_wp2;go_roundg (l.length - (k + 2))
     case rel => exact ⟨k + 2,by omega,rfl,by go_num,HV,rfl⟩
     case measure => omega
   ·have HV:Hid (npc l = k):=Hh (by rw [HN.out,hn];omega)
    by_cases hlen:k + 2 ≤ l.length
    ·have hm:=hmid hlen
     have hm':∀ W,(Instr.slice 9 (.string ⟨l.toArray⟩) (some (.int .i64 (k:Nat))) (some (.int .i64 ((k:Int) + 2))) none).run Tryz.prog W = .ok (.string ⟨((l.drop k).take 2).toArray⟩) W:=fun W => hm W;have h2i:(2:Int) ≤ ((l.length:Nat):Int) - ((k:Nat):Int):=by omega
     have hneb:((l.drop k).take 2 == [194,175]) = false:=by rw [beq_eq_false_iff_ne];exact hne
     clear HN hn hmid hd1 hd2 hdl hp hcI hm hne;generalize (l.drop k).take 2 = m at *;generalize l[k].toNat = C at *;have b69:(((C:Nat):Int) == 69) = false:=by rw [beq_eq_false_iff_ne];omega
     by_cases h48:48 ≤ C
     ·have i48:(48:Int) ≤ ((C:Nat):Int):=by omega
      have i57:¬ ((C:Nat):Int) ≤ 57:=by omega
      clear hnd hn69;go_wp2;go_ret;exact ⟨by rw [HV.out];rfl,rfl⟩
     ·have i48:¬ (48:Int) ≤ ((C:Nat):Int):=by omega
      clear hnd hn69;go_wp2;go_ret;exact ⟨by rw [HV.out];rfl,rfl⟩
    ·have h2i:¬ (2:Int) ≤ ((l.length:Nat):Int) - ((k:Nat):Int):=by omega
     clear HN hn hmid hd1 hd2 hdl hp hcI hne;generalize l[k].toNat = C at *;have b69:(((C:Nat):Int) == 69) = false:=by rw [beq_eq_false_iff_ne];omega
     by_cases h48:48 ≤ C
     ·have i48:(48:Int) ≤ ((C:Nat):Int):=by omega
      have i57:¬ ((C:Nat):Int) ≤ 57:=by omega
      clear hnd hn69;go_wp2;go_ret;exact ⟨by rw [HV.out];rfl,rfl⟩
     ·have i48:¬ (48:Int) ≤ ((C:Nat):Int):=by omega
      clear hnd hn69;go_wp2;go_ret;exact ⟨by rw [HV.out];rfl,rfl⟩
  ·obtain rfl:l.length = k:=by omega
   have HV:Hid (npc l = l.length):=Hh (by rw [HN.out,List.drop_length];simp [npc])
   clear HN;go_wp2;go_ret;exact ⟨by rw [HV.out];rfl,rfl⟩
theorem join_take {α:Type} (f:α → List UInt8) (xs:List α) (k:Nat) (h:k < xs.length) (d:α) :
  join ((xs.take (k + 1)).map f) [32] = if k = 0 then f (xs.getD k d) else join ((xs.take k).map f) [32] ++ 32 :: f (xs.getD k d):=by
 have e:xs.getD k d = xs[k]:=by simp [List.getD,h]
 rw [e,List.take_succ_eq_append_getElem h,List.map_append,List.map_cons,List.map_nil]
 by_cases h0:k = 0
 ·subst h0
  simp [Go.Lib.join_one]
 ·rw [if_neg h0,join_snoc]
  intro e;have:=congrArg List.length e;rw [List.length_map,List.length_take,List.length_nil] at this;omega
theorem rints_any (A:Option Addr) (n c:Nat) (xs:List Int) (w:World) (hn:xs.length = n) (hnb:n ≤ 100000) (hr:Nums .i64 w w.heap.size A xs) (hi:∀ x ∈ xs,In x) :
  Calls Tryz.prog 66 #[.slice A n c] w fun e w' => e = .returned (.string ⟨(intsT xs).toArray⟩) ∧ Grow w w':=by
 have HN:=Hh hn;have HR:=Hh hr;have HI:=Hh hi;clear hn hr hi
 go_enter Tryz.func66,Tryz.ntmps66
 go_wp2
 go_loopg [3,4] n (fun g s3 s4 wr => ∃ (k:Nat) (s:List UInt8),k ≤ n ∧ g = n - k ∧ s4 = .int .i64 k ∧ s3 = .string ⟨s.toArray⟩ ∧ Hid (s = join ((xs.take k).map num) [32]) ∧ Hid (Grow w wr))
 case atStart => exact ⟨0,[],Nat.zero_le _,rfl,rfl,rfl,Hh rfl,Hh (Grow.refl _)⟩
 case round =>
  obtain ⟨k,s,hk,rfl,rfl,rfl,HS,HG⟩:=hrel
  by_cases hlt:k < n
  ·have hlti:((k:Nat):Int) < ((n:Nat):Int):=by omega
   have hkl:k < xs.length:=by rw [HN.out];exact hlt
   obtain ⟨b,off,rfl,hb,hcl⟩:=HR.out.grow HG.out (by omega)
   have hc:=hcl k hkl;have hin:=getD_in HI.out hkl;have HT:=Hh (join_take num xs k hkl 0);have hsl:s.length ≤ 2200000:=by
    rw [HS.out];have:=ints_len (xs:=xs.take k) (fun x hx => HI.out x (List.mem_of_mem_take hx));unfold intsT at this;rw [List.length_take] at this;omega
   clear hcl hb hkl;generalize xs.getD k 0 = x at hc hin HT;have HX:=Hh (fun W => rnumber_any x W hin);have hxl:=num_len hin;clear hin;obtain ⟨u,hu⟩:∃ u,num x = u:=⟨_,rfl⟩;rw [hu] at HX HT hxl;rw [← HS.out] at HT;clear hu
   by_cases h0:k = 0
   ·have hz:¬ (0:Int) < ((k:Nat):Int):=by omega
    have hzn:¬ 0 < k:=by omega
    have hs0:s = []:=by rw [HS.out,h0];rfl
    have HV:=Hh (show u = join ((xs.take (k + 1)).map num) [32] by rw [HT.out,if_pos h0])
    subst hs0;have hcat:(⟨#[]⟩:ByteArray) ++ ⟨u.toArray⟩ = ⟨u.toArray⟩:=str_app [] u;have hs1:¬ 9223372036854775807 < u.length:=by omega
    clear HT HS h0;go_wp2_with fail;refine (HX.out _).mono ?_;rintro e w2 ⟨rfl,hg⟩;have HG2:=Hh (HG.out.trans hg);clear hg HX;go_wp2;go_roundg (n - (k + 1))
    case rel => exact ⟨k + 1,u,by omega,rfl,by go_num,rfl,HV,HG2⟩
    case measure => omega
   ·have hz:(0:Int) < ((k:Nat):Int):=by omega
    have hzn:0 < k:=by omega
    have HV:=Hh (show s ++ 32 :: u = join ((xs.take (k + 1)).map num) [32] by rw [HT.out,if_neg h0])
    have hcat:(⟨s.toArray⟩:ByteArray) ++ ⟨#[32]⟩ = ⟨(s ++ [32]).toArray⟩:=str_app s [32];have hcat2:(⟨(s ++ [32]).toArray⟩:ByteArray) ++ ⟨u.toArray⟩ = ⟨(s ++ 32 :: u).toArray⟩:=by rw [str_app];simp
    have hs1:¬ 9223372036854775807 < s.length + 1:=by omega
    have hs2:¬ 9223372036854775807 < s.length + 1 + u.length:=by omega
    clear HT HS h0;go_wp2_with fail;refine (HX.out _).mono ?_;rintro e w2 ⟨rfl,hg⟩;have HG2:=Hh (HG.out.trans hg);clear hg HX;go_wp2;go_roundg (n - (k + 1))
    case rel => exact ⟨k + 1,s ++ 32 :: u,by omega,rfl,by go_num,rfl,HV,HG2⟩
    case measure => omega
  ·obtain rfl:n = k:=by omega
   have HV:=Hh (show s = intsT xs by rw [HS.out,List.take_of_length_le (by rw [HN.out];exact Nat.le_refl _)];rfl)
   go_wp2;go_ret;exact ⟨by rw [← HV.out];rfl,HG.out⟩
theorem rdecs_any (A:Option Addr) (n c:Nat) (ds:List Dc) (w:World) (hn:ds.length = n) (hnb:n ≤ 100000) (hr:Decs w w.heap.size A ds) (hi:∀ x ∈ ds,In x.1 ∧ In x.2) :
  Calls Tryz.prog 109 #[.slice A n c] w fun e w' => e = .returned (.string ⟨(decsT ds).toArray⟩) ∧ Grow w w':=by
 have HN:=Hh hn;have HR:=Hh hr;have HI:=Hh hi;clear hn hr hi
 go_enter Tryz.func109,Tryz.ntmps109
 go_wp2
 go_loopg [3,4] n (fun g s3 s4 wr => ∃ (k:Nat) (s:List UInt8),k ≤ n ∧ g = n - k ∧ s4 = .int .i64 k ∧ s3 = .string ⟨s.toArray⟩ ∧ Hid (s = join ((ds.take k).map fun d => text d.1 d.2) [32]) ∧ Hid (decsR (ds.take k) = true) ∧ Hid (Grow w wr))
 case atStart => exact ⟨0,[],Nat.zero_le _,rfl,rfl,rfl,Hh rfl,Hh rfl,Hh (Grow.refl _)⟩
 case round =>
  obtain ⟨k,s,hk,rfl,rfl,rfl,HS,HDR,HG⟩:=hrel
  by_cases hlt:k < n
  ·have hlti:((k:Nat):Int) < ((n:Nat):Int):=by omega
   have hkl:k < ds.length:=by rw [HN.out];exact hlt
   obtain ⟨b,off,rfl,hb,hcl⟩:=HR.out.grow HG.out (by omega)
   obtain ⟨hc0,hc1⟩:=hcl k hkl;have hin:In (ds.getD k (0,0)).1 ∧ In (ds.getD k (0,0)).2:=by
    have e:ds.getD k (0,0) = ds[k]:=by simp [List.getD,hkl]
    rw [e];exact HI.out _ (List.getElem_mem hkl)
   have HT:=Hh (join_take (fun d:Dc => text d.1 d.2) ds k hkl (0,0));have HX0:=Hh (decsR_not hkl);have HY:=Hh (decsR_take hkl);have hsl:s.length ≤ 3000000:=by
    rw [HS.out];have:=decs_len (ds:=ds.take k) (fun x hx => (HI.out x (List.mem_of_mem_take hx)).1);unfold decsT at this;rw [if_pos HDR.out,List.length_take] at this;omega
   clear hcl hb hkl;obtain ⟨⟨m,e⟩,hx⟩:∃ x,ds.getD k (0,0) = x:=⟨_,rfl⟩;rw [hx] at hc0 hc1 hin HT HX0 HY;simp only at hc0 hc1 hin HT HX0 HY;clear hx;have HX:=Hh (fun W => rtext_any m e W hin.1 hin.2);have hxl:=text_len (e:=e) hin.1;have hnz:rightD m e = true → text m e ≠ []:=fun h => text_ne h;have hz:rightD m e = false → text m e = []:=fun h => text_wrong h;clear hin;obtain ⟨u,hu⟩:∃ u,text m e = u:=⟨_,rfl⟩;rw [hu] at HX HT hxl hnz hz;rw [← HS.out] at HT;clear hu;obtain ⟨r,hrr⟩:∃ r,rightD m e = r:=⟨_,rfl⟩;rw [hrr] at HX0 HY hnz hz;clear hrr
   cases r
   ·have hu0:=hz rfl
    subst hu0;have HF:=Hh (decs_wrong (HX0.out rfl));clear HT HS hnz hz HY HDR;go_wp2_with fail;refine (HX.out _).mono ?_;rintro x w2 ⟨rfl,hg⟩;have HG2:=Hh (HG.out.trans hg);clear hg HX;go_wp2;go_ret;exact ⟨by rw [HF.out];rfl,HG2.out⟩
   have hub:(u == []) = false:=beq_eq_false_iff_ne.2 (hnz rfl);have HD2:=Hh (show decsR (ds.take (k + 1)) = true by rw [HY.out,HDR.out];rfl)
   clear HX0 HY hnz hz HDR
   by_cases h0:k = 0
   ·have hz:¬ (0:Int) < ((k:Nat):Int):=by omega
    have hzn:¬ 0 < k:=by omega
    have hs0:s = []:=by rw [HS.out,h0];rfl
    have HV:=Hh (show u = join ((ds.take (k + 1)).map fun d => text d.1 d.2) [32] by rw [HT.out,if_pos h0])
    subst hs0;have hcat:(⟨#[]⟩:ByteArray) ++ ⟨u.toArray⟩ = ⟨u.toArray⟩:=str_app [] u;have hs1:¬ 9223372036854775807 < u.length:=by omega
    clear HT HS h0;go_wp2_with fail;refine (HX.out _).mono ?_;rintro x w2 ⟨rfl,hg⟩;have HG2:=Hh (HG.out.trans hg);clear hg HX;go_wp2;go_roundg (n - (k + 1))
    case rel => exact ⟨k + 1,u,by omega,rfl,by go_num,rfl,HV,HD2,HG2⟩
    case measure => omega
   ·have hz:(0:Int) < ((k:Nat):Int):=by omega
    have hzn:0 < k:=by omega
    have HV:=Hh (show s ++ 32 :: u = join ((ds.take (k + 1)).map fun d => text d.1 d.2) [32] by rw [HT.out,if_neg h0])
    have hcat:(⟨s.toArray⟩:ByteArray) ++ ⟨#[32]⟩ = ⟨(s ++ [32]).toArray⟩:=str_app s [32];have hcat2:(⟨(s ++ [32]).toArray⟩:ByteArray) ++ ⟨u.toArray⟩ = ⟨(s ++ 32 :: u).toArray⟩:=by rw [str_app];simp
    have hs1:¬ 9223372036854775807 < s.length + 1:=by omega
    have hs2:¬ 9223372036854775807 < s.length + 1 + u.length:=by omega
    clear HT HS h0;go_wp2_with fail;refine (HX.out _).mono ?_;rintro x w2 ⟨rfl,hg⟩;have HG2:=Hh (HG.out.trans hg);clear hg HX;go_wp2;go_roundg (n - (k + 1))
    case rel => exact ⟨k + 1,s ++ 32 :: u,by omega,rfl,by go_num,rfl,HV,HD2,HG2⟩
    case measure => omega
  ·obtain rfl:n = k:=by omega
   have hd:=HDR.out;rw [List.take_of_length_le (by rw [HN.out];exact Nat.le_refl _)] at hd
   have HV:=Hh (show s = decsT ds by rw [HS.out,List.take_of_length_le (by rw [HN.out];exact Nat.le_refl _)];unfold decsT;rw [if_pos hd])
   clear hd;go_wp2;go_ret;exact ⟨by rw [← HV.out];rfl,HG.out⟩
end Go.Proofs.YteoogioanjkacaaGreatDoor.Num
namespace Go.Proofs.YteoogioanjkacaaGreatDoor.Quo
open Go.RowKit Go.Lib
def Str (l:List UInt8) (w:World) (e:Ending) (w':World):Prop:=e = .returned (.string ⟨l.toArray⟩) ∧ Grow w w'
theorem rbytes_any (c:Nat) (w:World) (hc:c ≤ 9223372036854775807):Calls Tryz.prog 108 #[.int .i64 (c:Nat)] w (Str (bytesD c) w):=by
 have h0:¬ ((c:Nat):Int) < 0:=by omega
 by_cases h1:1114111 < c
 ·have HB:Hid (bytesD c = []):=Hh (by unfold bytesD;rw [if_neg (by rw [isSign_iff];omega)])
  have h1':1114111 < ((c:Nat):Int):=by omega
  clear hc h1
  go_enter Tryz.func108,Tryz.ntmps108
  go_wp2;go_ret;exact ⟨by rw [HB.out];rfl,Grow.refl _⟩
 have h1':¬ 1114111 < ((c:Nat):Int):=by omega
 by_cases h2:55296 ≤ c ∧ c ≤ 57343
 ·have HB:Hid (bytesD c = []):=Hh (by unfold bytesD;rw [if_neg (by rw [isSign_iff];omega)])
  have h2':55296 ≤ ((c:Nat):Int):=by omega
  have h3':((c:Nat):Int) ≤ 57343:=by omega
  clear hc h1 h2
  go_enter Tryz.func108,Tryz.ntmps108
  go_wp2;go_ret;exact ⟨by rw [HB.out];rfl,Grow.refl _⟩
 have hs:isSign c = true:=isSign_iff.2 ⟨by omega,h2⟩
 by_cases h3:c < 128
 ·have h2':¬ 55296 ≤ ((c:Nat):Int):=by omega
  obtain ⟨x,hx⟩:∃ x:UInt8,UInt8.ofNat (c) = x:=⟨_,rfl⟩;have HB:Hid (bytesD c = [x]):=Hh (by unfold bytesD;rw [if_pos hs,if_pos (by omega),hx])
  have nx:x.toNat = c:=by rw [← hx,u8_nat (by omega)]
  have vx:IntKind.u8.wrap ((c:Nat):Int) = ((x.toNat:Nat):Int):=by rw [IntKind.wrap_u8];omega
  have hcv:=conv_lit w [x] _ 1 rfl rfl;simp only [Go.Lib.byteCells,List.map_cons,List.map_nil] at hcv;have c1:((c:Nat):Int) < 128:=by omega
  clear hc h1 h2 hs hx nx
  go_enter Tryz.func108,Tryz.ntmps108
  go_wp2;go_ret;exact ⟨by rw [HB.out];rfl,grow_new _ _⟩
 by_cases h4:c < 2048
 ·have h2':¬ 55296 ≤ ((c:Nat):Int):=by omega
  obtain ⟨x,hx⟩:∃ x:UInt8,UInt8.ofNat (192 + c / 64) = x:=⟨_,rfl⟩;obtain ⟨y,hy⟩:∃ y:UInt8,UInt8.ofNat (128 + c % 64) = y:=⟨_,rfl⟩;have HB:Hid (bytesD c = [x,y]):=Hh (by unfold bytesD;rw [if_pos hs,if_neg (by omega),if_pos (by omega),hx,hy])
  have nx:x.toNat = 192 + c / 64:=by rw [← hx,u8_nat (by omega)]
  have ny:y.toNat = 128 + c % 64:=by rw [← hy,u8_nat (by omega)]
  obtain ⟨q1,eq1⟩:∃ q1:Nat,c / 64 = q1:=⟨_,rfl⟩;have iq1:((c:Nat):Int) / 64 = ((q1:Nat):Int):=by omega
  have jq1:((c:Nat):Int).tdiv 64 = ((q1:Nat):Int):=by rw [Int.tdiv_eq_ediv_of_nonneg (by omega)];omega
  obtain ⟨r0,er0⟩:∃ r0:Nat,c % 64 = r0:=⟨_,rfl⟩;have ir0:((c:Nat):Int) % 64 = ((r0:Nat):Int):=by omega
  have jr0:((c:Nat):Int).tmod 64 = ((r0:Nat):Int):=by rw [Int.tmod_eq_emod_of_nonneg (by omega)];omega
  have bq1:q1 < 64:=by omega
  have wx:IntKind.i64.wrap (192 + ((q1:Nat):Int)) = 192 + ((q1:Nat):Int):=by rw [IntKind.wrap_i64];omega
  have vx:IntKind.u8.wrap (192 + ((q1:Nat):Int)) = ((x.toNat:Nat):Int):=by rw [IntKind.wrap_u8];omega
  have br0:r0 < 64:=by omega
  have wy:IntKind.i64.wrap (128 + ((r0:Nat):Int)) = 128 + ((r0:Nat):Int):=by rw [IntKind.wrap_i64];omega
  have vy:IntKind.u8.wrap (128 + ((r0:Nat):Int)) = ((y.toNat:Nat):Int):=by rw [IntKind.wrap_u8];omega
  have hcv:=conv_lit w [x,y] _ 2 rfl rfl;simp only [Go.Lib.byteCells,List.map_cons,List.map_nil] at hcv;have c1:¬ ((c:Nat):Int) < 128:=by omega
  have c2:((c:Nat):Int) < 2048:=by omega
  clear hc h1 h2 hs hx hy nx ny eq1 er0
  go_enter Tryz.func108,Tryz.ntmps108
  go_wp2;go_ret;exact ⟨by rw [HB.out];rfl,grow_new _ _⟩
 by_cases h5:c < 55296
 ·have h2':¬ 55296 ≤ ((c:Nat):Int):=by omega
  obtain ⟨x,hx⟩:∃ x:UInt8,UInt8.ofNat (224 + c / 4096) = x:=⟨_,rfl⟩;obtain ⟨y,hy⟩:∃ y:UInt8,UInt8.ofNat (128 + c / 64 % 64) = y:=⟨_,rfl⟩;obtain ⟨z,hz⟩:∃ z:UInt8,UInt8.ofNat (128 + c % 64) = z:=⟨_,rfl⟩;have HB:Hid (bytesD c = [x,y,z]):=Hh (by unfold bytesD;rw [if_pos hs,if_neg (by omega),if_neg (by omega),if_pos (by omega),hx,hy,hz])
  have nx:x.toNat = 224 + c / 4096:=by rw [← hx,u8_nat (by omega)]
  have ny:y.toNat = 128 + c / 64 % 64:=by rw [← hy,u8_nat (by omega)]
  have nz:z.toNat = 128 + c % 64:=by rw [← hz,u8_nat (by omega)]
  obtain ⟨q2,eq2⟩:∃ q2:Nat,c / 4096 = q2:=⟨_,rfl⟩;have iq2:((c:Nat):Int) / 4096 = ((q2:Nat):Int):=by omega
  have jq2:((c:Nat):Int).tdiv 4096 = ((q2:Nat):Int):=by rw [Int.tdiv_eq_ediv_of_nonneg (by omega)];omega
  obtain ⟨q1,eq1⟩:∃ q1:Nat,c / 64 = q1:=⟨_,rfl⟩;have iq1:((c:Nat):Int) / 64 = ((q1:Nat):Int):=by omega
  have jq1:((c:Nat):Int).tdiv 64 = ((q1:Nat):Int):=by rw [Int.tdiv_eq_ediv_of_nonneg (by omega)];omega
  obtain ⟨r1,er1⟩:∃ r1:Nat,q1 % 64 = r1:=⟨_,rfl⟩;have ir1:((q1:Nat):Int) % 64 = ((r1:Nat):Int):=by omega
  have jr1:((q1:Nat):Int).tmod 64 = ((r1:Nat):Int):=by rw [Int.tmod_eq_emod_of_nonneg (by omega)];omega
  obtain ⟨r0,er0⟩:∃ r0:Nat,c % 64 = r0:=⟨_,rfl⟩;have ir0:((c:Nat):Int) % 64 = ((r0:Nat):Int):=by omega
  have jr0:((c:Nat):Int).tmod 64 = ((r0:Nat):Int):=by rw [Int.tmod_eq_emod_of_nonneg (by omega)];omega
  have bq2:q2 < 64:=by omega
  have wx:IntKind.i64.wrap (224 + ((q2:Nat):Int)) = 224 + ((q2:Nat):Int):=by rw [IntKind.wrap_i64];omega
  have vx:IntKind.u8.wrap (224 + ((q2:Nat):Int)) = ((x.toNat:Nat):Int):=by rw [IntKind.wrap_u8];omega
  have br1:r1 < 64:=by omega
  have wy:IntKind.i64.wrap (128 + ((r1:Nat):Int)) = 128 + ((r1:Nat):Int):=by rw [IntKind.wrap_i64];omega
  have vy:IntKind.u8.wrap (128 + ((r1:Nat):Int)) = ((y.toNat:Nat):Int):=by rw [IntKind.wrap_u8];omega
  have br0:r0 < 64:=by omega
  have wz:IntKind.i64.wrap (128 + ((r0:Nat):Int)) = 128 + ((r0:Nat):Int):=by rw [IntKind.wrap_i64];omega
  have vz:IntKind.u8.wrap (128 + ((r0:Nat):Int)) = ((z.toNat:Nat):Int):=by rw [IntKind.wrap_u8];omega
  have hcv:=conv_lit w [x,y,z] _ 3 rfl rfl;simp only [Go.Lib.byteCells,List.map_cons,List.map_nil] at hcv;have c1:¬ ((c:Nat):Int) < 128:=by omega
  have c2:¬ ((c:Nat):Int) < 2048:=by omega
  have c3:((c:Nat):Int) < 65536:=by omega
  clear hc h1 h2 hs hx hy hz nx ny nz eq2 eq1 er1 er0
  go_enter Tryz.func108,Tryz.ntmps108
  go_wp2;go_ret;exact ⟨by rw [HB.out];rfl,grow_new _ _⟩
 have h2':55296 ≤ ((c:Nat):Int):=by omega
 have h3':¬ ((c:Nat):Int) ≤ 57343:=by omega
 by_cases h6:c < 65536
 ·skip
  obtain ⟨x,hx⟩:∃ x:UInt8,UInt8.ofNat (224 + c / 4096) = x:=⟨_,rfl⟩;obtain ⟨y,hy⟩:∃ y:UInt8,UInt8.ofNat (128 + c / 64 % 64) = y:=⟨_,rfl⟩;obtain ⟨z,hz⟩:∃ z:UInt8,UInt8.ofNat (128 + c % 64) = z:=⟨_,rfl⟩;have HB:Hid (bytesD c = [x,y,z]):=Hh (by unfold bytesD;rw [if_pos hs,if_neg (by omega),if_neg (by omega),if_pos (by omega),hx,hy,hz])
  have nx:x.toNat = 224 + c / 4096:=by rw [← hx,u8_nat (by omega)]
  have ny:y.toNat = 128 + c / 64 % 64:=by rw [← hy,u8_nat (by omega)]
  have nz:z.toNat = 128 + c % 64:=by rw [← hz,u8_nat (by omega)]
  obtain ⟨q2,eq2⟩:∃ q2:Nat,c / 4096 = q2:=⟨_,rfl⟩;have iq2:((c:Nat):Int) / 4096 = ((q2:Nat):Int):=by omega
  have jq2:((c:Nat):Int).tdiv 4096 = ((q2:Nat):Int):=by rw [Int.tdiv_eq_ediv_of_nonneg (by omega)];omega
  obtain ⟨q1,eq1⟩:∃ q1:Nat,c / 64 = q1:=⟨_,rfl⟩;have iq1:((c:Nat):Int) / 64 = ((q1:Nat):Int):=by omega
  have jq1:((c:Nat):Int).tdiv 64 = ((q1:Nat):Int):=by rw [Int.tdiv_eq_ediv_of_nonneg (by omega)];omega
  obtain ⟨r1,er1⟩:∃ r1:Nat,q1 % 64 = r1:=⟨_,rfl⟩;have ir1:((q1:Nat):Int) % 64 = ((r1:Nat):Int):=by omega
  have jr1:((q1:Nat):Int).tmod 64 = ((r1:Nat):Int):=by rw [Int.tmod_eq_emod_of_nonneg (by omega)];omega
  obtain ⟨r0,er0⟩:∃ r0:Nat,c % 64 = r0:=⟨_,rfl⟩;have ir0:((c:Nat):Int) % 64 = ((r0:Nat):Int):=by omega
  have jr0:((c:Nat):Int).tmod 64 = ((r0:Nat):Int):=by rw [Int.tmod_eq_emod_of_nonneg (by omega)];omega
  have bq2:q2 < 64:=by omega
  have wx:IntKind.i64.wrap (224 + ((q2:Nat):Int)) = 224 + ((q2:Nat):Int):=by rw [IntKind.wrap_i64];omega
  have vx:IntKind.u8.wrap (224 + ((q2:Nat):Int)) = ((x.toNat:Nat):Int):=by rw [IntKind.wrap_u8];omega
  have br1:r1 < 64:=by omega
  have wy:IntKind.i64.wrap (128 + ((r1:Nat):Int)) = 128 + ((r1:Nat):Int):=by rw [IntKind.wrap_i64];omega
  have vy:IntKind.u8.wrap (128 + ((r1:Nat):Int)) = ((y.toNat:Nat):Int):=by rw [IntKind.wrap_u8];omega
  have br0:r0 < 64:=by omega
  have wz:IntKind.i64.wrap (128 + ((r0:Nat):Int)) = 128 + ((r0:Nat):Int):=by rw [IntKind.wrap_i64];omega
  have vz:IntKind.u8.wrap (128 + ((r0:Nat):Int)) = ((z.toNat:Nat):Int):=by rw [IntKind.wrap_u8];omega
  have hcv:=conv_lit w [x,y,z] _ 3 rfl rfl;simp only [Go.Lib.byteCells,List.map_cons,List.map_nil] at hcv;have c1:¬ ((c:Nat):Int) < 128:=by omega
  have c2:¬ ((c:Nat):Int) < 2048:=by omega
  have c3:((c:Nat):Int) < 65536:=by omega
  clear hc h1 h2 hs hx hy hz nx ny nz eq2 eq1 er1 er0
  go_enter Tryz.func108,Tryz.ntmps108
  go_wp2;go_ret;exact ⟨by rw [HB.out];rfl,grow_new _ _⟩
 ·skip
  obtain ⟨x,hx⟩:∃ x:UInt8,UInt8.ofNat (240 + c / 262144) = x:=⟨_,rfl⟩;obtain ⟨y,hy⟩:∃ y:UInt8,UInt8.ofNat (128 + c / 4096 % 64) = y:=⟨_,rfl⟩;obtain ⟨z,hz⟩:∃ z:UInt8,UInt8.ofNat (128 + c / 64 % 64) = z:=⟨_,rfl⟩;obtain ⟨u,hu⟩:∃ u:UInt8,UInt8.ofNat (128 + c % 64) = u:=⟨_,rfl⟩;have HB:Hid (bytesD c = [x,y,z,u]):=Hh (by unfold bytesD;rw [if_pos hs,if_neg (by omega),if_neg (by omega),if_neg (by omega),hx,hy,hz,hu])
  have nx:x.toNat = 240 + c / 262144:=by rw [← hx,u8_nat (by omega)]
  have ny:y.toNat = 128 + c / 4096 % 64:=by rw [← hy,u8_nat (by omega)]
  have nz:z.toNat = 128 + c / 64 % 64:=by rw [← hz,u8_nat (by omega)]
  have nu:u.toNat = 128 + c % 64:=by rw [← hu,u8_nat (by omega)]
  obtain ⟨q3,eq3⟩:∃ q3:Nat,c / 262144 = q3:=⟨_,rfl⟩;have iq3:((c:Nat):Int) / 262144 = ((q3:Nat):Int):=by omega
  have jq3:((c:Nat):Int).tdiv 262144 = ((q3:Nat):Int):=by rw [Int.tdiv_eq_ediv_of_nonneg (by omega)];omega
  obtain ⟨q2,eq2⟩:∃ q2:Nat,c / 4096 = q2:=⟨_,rfl⟩;have iq2:((c:Nat):Int) / 4096 = ((q2:Nat):Int):=by omega
  have jq2:((c:Nat):Int).tdiv 4096 = ((q2:Nat):Int):=by rw [Int.tdiv_eq_ediv_of_nonneg (by omega)];omega
  obtain ⟨q1,eq1⟩:∃ q1:Nat,c / 64 = q1:=⟨_,rfl⟩;have iq1:((c:Nat):Int) / 64 = ((q1:Nat):Int):=by omega
  have jq1:((c:Nat):Int).tdiv 64 = ((q1:Nat):Int):=by rw [Int.tdiv_eq_ediv_of_nonneg (by omega)];omega
  obtain ⟨r2,er2⟩:∃ r2:Nat,q2 % 64 = r2:=⟨_,rfl⟩;have ir2:((q2:Nat):Int) % 64 = ((r2:Nat):Int):=by omega
  have jr2:((q2:Nat):Int).tmod 64 = ((r2:Nat):Int):=by rw [Int.tmod_eq_emod_of_nonneg (by omega)];omega
  obtain ⟨r1,er1⟩:∃ r1:Nat,q1 % 64 = r1:=⟨_,rfl⟩;have ir1:((q1:Nat):Int) % 64 = ((r1:Nat):Int):=by omega
  have jr1:((q1:Nat):Int).tmod 64 = ((r1:Nat):Int):=by rw [Int.tmod_eq_emod_of_nonneg (by omega)];omega
  obtain ⟨r0,er0⟩:∃ r0:Nat,c % 64 = r0:=⟨_,rfl⟩;have ir0:((c:Nat):Int) % 64 = ((r0:Nat):Int):=by omega
  have jr0:((c:Nat):Int).tmod 64 = ((r0:Nat):Int):=by rw [Int.tmod_eq_emod_of_nonneg (by omega)];omega
  have bq3:q3 < 64:=by omega
  have wx:IntKind.i64.wrap (240 + ((q3:Nat):Int)) = 240 + ((q3:Nat):Int):=by rw [IntKind.wrap_i64];omega
  have vx:IntKind.u8.wrap (240 + ((q3:Nat):Int)) = ((x.toNat:Nat):Int):=by rw [IntKind.wrap_u8];omega
  have br2:r2 < 64:=by omega
  have wy:IntKind.i64.wrap (128 + ((r2:Nat):Int)) = 128 + ((r2:Nat):Int):=by rw [IntKind.wrap_i64];omega
  have vy:IntKind.u8.wrap (128 + ((r2:Nat):Int)) = ((y.toNat:Nat):Int):=by rw [IntKind.wrap_u8];omega
  have br1:r1 < 64:=by omega
  have wz:IntKind.i64.wrap (128 + ((r1:Nat):Int)) = 128 + ((r1:Nat):Int):=by rw [IntKind.wrap_i64];omega
  have vz:IntKind.u8.wrap (128 + ((r1:Nat):Int)) = ((z.toNat:Nat):Int):=by rw [IntKind.wrap_u8];omega
  have br0:r0 < 64:=by omega
  have wu:IntKind.i64.wrap (128 + ((r0:Nat):Int)) = 128 + ((r0:Nat):Int):=by rw [IntKind.wrap_i64];omega
  have vu:IntKind.u8.wrap (128 + ((r0:Nat):Int)) = ((u.toNat:Nat):Int):=by rw [IntKind.wrap_u8];omega
  have hcv:=conv_lit w [x,y,z,u] _ 4 rfl rfl;simp only [Go.Lib.byteCells,List.map_cons,List.map_nil] at hcv;have c1:¬ ((c:Nat):Int) < 128:=by omega
  have c2:¬ ((c:Nat):Int) < 2048:=by omega
  have c3:¬ ((c:Nat):Int) < 65536:=by omega
  clear hc h1 h2 hs hx hy hz hu nx ny nz nu eq3 eq2 eq1 er2 er1 er0
  go_enter Tryz.func108,Tryz.ntmps108
  go_wp2;go_ret;exact ⟨by rw [HB.out];rfl,grow_new _ _⟩
def bytesZ (x:Int):List UInt8:=if signZ x = true then bytesD x.toNat else []
theorem rbytesZ_any (x:Int) (w:World) (hx:In x):Calls Tryz.prog 108 #[.int .i64 x] w (Str (bytesZ x) w):=by
 by_cases h0:x < 0
 ·have hb:bytesZ x = []:=by unfold bytesZ signZ;rw [if_neg];simp;omega
  rw [hb];clear hb
  go_enter Tryz.func108,Tryz.ntmps108
  go_wp2;go_ret;exact ⟨rfl,Grow.refl _⟩
 ·obtain ⟨c,rfl⟩:∃ c:Nat,x = (c:Int):=⟨x.toNat,by omega⟩
  have hb:bytesZ (c:Int) = bytesD c:=by
   unfold bytesZ
   by_cases hs:signZ (c:Int) = true
   ·rw [if_pos hs,Int.toNat_natCast]
   ·rw [if_neg hs]
    unfold bytesD;rw [if_neg];intro h;exact hs (signZ_of h)
  rw [hb];exact rbytes_any c w (by have:=hx.2;omega)
open Go.RowKit Go.Lib
theorem rtext_any (A:Option Addr) (n c:Nat) (xs:List Int) (w:World) (hn:xs.length = n) (hnb:n ≤ 100000) (hr:Nums .i64 w w.heap.size A xs) (hi:∀ x ∈ xs,In x) :
  Calls Tryz.prog 64 #[.slice A n c] w (TextP (textQ xs) (xs.all signZ) w):=by
 have HN:=Hh hn;have HR:=Hh hr;have HIN:=Hh hi;clear hn hr hi
 go_enter Tryz.func64,Tryz.ntmps64
 go_wp2
 go_loopg [4,5] n (fun g s4 s5 wr => ∃ (k:Nat) (S:List UInt8),k ≤ n ∧ g = n - k ∧ s4 = .string ⟨S.toArray⟩ ∧ s5 = .int .i64 k ∧ Hid ((xs.take k).all signZ = true) ∧ Hid (39 :: qT (natsZ (xs.take k)) = S) ∧ Hid (Grow w wr))
 case atStart => exact ⟨0,[39],Nat.zero_le _,rfl,rfl,rfl,Hh rfl,Hh rfl,Hh (Grow.refl _)⟩
 case round =>
  obtain ⟨k,S,hk,rfl,rfl,rfl,HS,HQ,HG⟩:=hrel;have hSl:S.length ≤ 1000000:=by
   have h1:=qT_le (natsZ (xs.take k));have h2:=nats_take xs k;rw [← HQ.out,List.length_cons];omega
  by_cases hlt:k < n
  ·have hkl:k < xs.length:=by rw [HN.out];exact hlt
   obtain ⟨b,off,rfl,hb,hcl⟩:=(HR.out.grow HG.out) (by omega)
   have hck:=hcl k hkl;have HQN:=Hh (qT_step hkl);have HA:=Hh (all_step hkl HS.out);have HX:=Hh (all_not (xs:=xs) hkl);have hin:In (xs.getD k 0):=by
    have e:xs.getD k 0 = xs[k]:=by simp [List.getD,hkl]
    rw [e];exact HIN.out _ (List.getElem_mem hkl)
   obtain ⟨x,hx⟩:∃ x,xs.getD k 0 = x:=⟨_,rfl⟩;rw [hx] at hck HQN HA HX hin;have HB:=Hh (fun W => rbytesZ_any x W hin);have hwk:IntKind.i64.wrap (((k:Nat):Int) + 1) = ((k:Nat):Int) + 1:=by rw [IntKind.wrap_i64];omega
   clear hcl hx hkl hin
   cases hs:signZ x with
   | false =>
    have hb0:bytesZ x = []:=by unfold bytesZ;rw [hs];rfl
    rw [hb0] at HB;have HV:=Hh (HX.out hs);clear HX HA HQN hs hb0;go_wp2_with fail;refine (HB.out _).mono ?_;rintro e w2 ⟨rfl,hg⟩;have HG2:=Hh (HG.out.trans hg);clear hg HB;go_wp2;go_ret2;exact ⟨by rw [textQ_not HV.out,HV.out];rfl,HG2.out⟩
   | true =>
    have HA':=Hh (HA.out hs);have hsx:=signZ_iff.1 hs;obtain ⟨y,rfl⟩:∃ y:Nat,x = (y:Int):=⟨x.toNat,by omega⟩
    have hsy:isSign y = true:=by have:=(signZ_nat hs).1;rwa [Int.toNat_natCast] at this
    have hb1:bytesZ (y:Int) = bytesD y:=by unfold bytesZ;rw [if_pos hs,Int.toNat_natCast]
    rw [Int.toNat_natCast] at HQN;rw [hb1] at HB;have hp:=bytes_pos hsy;have hl4:=bytes_le y;have hne:(bytesD y == []) = false:=by
     cases hq:bytesD y with
     | nil => rw [hq] at hp;simp at hp
     | cons u v => rfl
    by_cases h39:y = 39
    ·subst h39
     have HQ2:Hid (39 :: qT (natsZ (xs.take (k + 1))) = S ++ [39] ++ [39]):=Hh (by rw [HQN.out,qC_39,← HQ.out];simp)
     have hcat:=str_app S [39];have hcat2:=str_app (S ++ [39]) [39];have hs1:¬ 9223372036854775807 < S.length + 1:=by omega
     have hs2:¬ 9223372036854775807 < S.length + 1 + 1:=by omega
     rw [show bytesD 39 = [39] from bytes39] at HB;have HQ3:=Hh (show Hid (39 :: qT (natsZ (xs.take (k + 1))) = S ++ [39] ++ [39]) from HQ2);clear HX HA HQN hs hb1 hp hl4 hne hsy hsx HQ2;go_wp2_with fail;refine (HB.out _).mono ?_;rintro e w2 ⟨rfl,hg⟩;have HG2:=Hh (HG.out.trans hg);have hck2:=(hg.cell (p:=⟨b,off + k,none⟩) hb).trans hck;clear hg HB hck;go_wp2;go_roundg (n - (k + 1))
     case rel => exact ⟨k + 1,S ++ [39] ++ [39],by omega,rfl,by first | rfl | (simp;done) | (rw [← hcat2,← hcat];rfl),by go_num,HA',HQ3.out,HG2⟩
     case measure => omega
    ·have hyb:(((y:Nat):Int) == 39) = false:=by rw [beq_eq_false_iff_ne];omega
     have HQ2:Hid (39 :: qT (natsZ (xs.take (k + 1))) = S ++ bytesD y):=Hh (by rw [HQN.out,qC_other h39,← HQ.out];simp)
     have hcat:=str_app S (bytesD y);have hs1:¬ 9223372036854775807 < S.length + (bytesD y).length:=by omega
     have HQ3:=Hh HQ2;clear HX HA HQN hs hb1 hp hl4 hsy hsx h39 HQ2;generalize bytesD y = D at *;go_wp2_with fail;refine (HB.out _).mono ?_;rintro e w2 ⟨rfl,hg⟩;have HG2:=Hh (HG.out.trans hg);have hck2:=(hg.cell (p:=⟨b,off + k,none⟩) hb).trans hck;clear hg HB hck;go_wp2;go_roundg (n - (k + 1))
     case rel => exact ⟨k + 1,S ++ D,by omega,rfl,rfl,by go_num,HA',HQ3.out,HG2⟩
     case measure => omega
  ·obtain rfl:k = n:=by omega
   have hall:xs.take k = xs:=List.take_of_length_le (by rw [HN.out];exact Nat.le_refl _)
   have HV:Hid (xs.all signZ = true):=Hh (by have:=HS.out;rwa [hall] at this)
   have HT:Hid (textQ xs = S ++ [39]):=Hh (by
    rw [textQ_all HV.out];have:=HQ.out;rw [hall] at this;rw [← this]
    rfl)
   have hcat:=str_app S [39];have hs1:¬ 9223372036854775807 < S.length + 1:=by omega
   clear hall HS HQ;go_wp2;go_ret2;exact ⟨by rw [HT.out,HV.out];first | rfl | (rw [← hcat];rfl),HG.out⟩
end Go.Proofs.YteoogioanjkacaaGreatDoor.Quo
namespace Go.Proofs.YteoogioanjkacaaGreatDoor
open Go.RowKit Go.Lib
theorem dnumbers_any (nd:Nd) (A1 A2 A3:Option Addr) (l1 c1 l2 c2 l3 c3:Nat) (w:World) (h2:nd.ints.length = l2) (h3:nd.decs.length = l3) (hb2:l2 ≤ 100000) (hb3:l3 ≤ 100000) (hi:∀ x ∈ nd.ints,In x) (hd:∀ x ∈ nd.decs,In x.1 ∧ In x.2)
  (hn:IsNd w w.heap.size A1 A2 A3 nd) :
  Calls Tryz.prog 65 #[.agg #[.int .i64 nd.kind,.slice A1 l1 c1,.slice A2 l2 c2,.slice A3 l3 c3]] w (Ret (.string ⟨(numsT nd).toArray⟩) w):=by
 have HT:Hid (numsT nd = if nd.kind = 4 then Num.decsT nd.decs else Num.intsT nd.ints):=Hh rfl
 obtain ⟨T,hT⟩:∃ T,numsT nd = T:=⟨_,rfl⟩;rw [hT] at HT ⊢;clear hT;have hgn:=grow_new w (.cells #[.int .i64 nd.kind,.slice A1 l1 c1,.slice A2 l2 c2,.slice A3 l3 c3] 34);have HI:=Hh (Num.rints_any A2 l2 c2 nd.ints _ h2 hb2 (hn.2.1.grow hgn) hi);have HD:=Hh (Num.rdecs_any A3 l3 c3 nd.decs _ h3 hb3 (hn.2.2.grow hgn) hd);have HG:=Hh hgn;have hbx:=boxN_new w nd.kind A1 l1 c1 A2 l2 c2 A3 l3 c3;have b0:=hbx.at0;have b2:=hbx.at2;have b3:=hbx.at3;clear hbx hgn hi hd hn h2 h3
 by_cases k4:nd.kind = 4
 ·have k4b:(nd.kind == 4) = true:=by rw [k4];rfl
  rw [if_pos k4] at HT;clear k4;generalize nd.kind = kd at *
  go_enter Tryz.func65,Tryz.ntmps65
  go_wp2_with fail;refine (HD.out).mono ?_;rintro e w2 ⟨rfl,hg⟩;have HG2:=Hh (HG.out.trans hg);clear hg HI HD HG;go_wp2;go_ret;exact ⟨by rw [HT.out];rfl,HG2.out⟩
 ·have k4b:(nd.kind == 4) = false:=by simpa using k4
  rw [if_neg k4] at HT;clear k4;generalize nd.kind = kd at *
  go_enter Tryz.func65,Tryz.ntmps65
  go_wp2_with fail;refine (HI.out).mono ?_;rintro e w2 ⟨rfl,hg⟩;have HG2:=Hh (HG.out.trans hg);clear hg HI HD HG;go_wp2;go_ret;exact ⟨by rw [HT.out];rfl,HG2.out⟩
theorem kidsT_take_le (ks:List (List Nd)) (j:Nat):(kidsT (ks.take j)).length ≤ (kidsT ks).length:=by
 have h:kidsT ks = kidsT (ks.take j) ++ kidsT (ks.drop j):=by rw [← kidsT_app,List.take_append_drop]
 rw [h,List.length_append];omega
theorem kid_in_flat {ks:List (List Nd)} {k:List Nd} (h:k ∈ ks):k.length ≤ (flatK ks).length ∧ ∀ m ∈ k,m ∈ flatK ks:=by
 induction ks with
 | nil => cases h
 | cons q ks ih =>
  have e:flatK (q :: ks) = q ++ flatK ks:=rfl;rw [e,List.length_append]
  rcases List.mem_cons.1 h with rfl | h
  ·exact ⟨by omega,fun m hm => List.mem_append_left _ hm⟩
  ·exact ⟨by have:=(ih h).1;omega,fun m hm => List.mem_append_right _ ((ih h).2 m hm)⟩
theorem tight_parts {xs:List Nd} (hr:rightA xs = true) (hf:Fine xs) (ht:formA xs = xs) (hs:Slim xs) :
  noteA xs = headT (xs.getD 0 nd0) ++ (if (xs.getD 0 nd0).kind = 5 then kidsT (kidsA xs) else leafT (xs.getD 0 nd0)) ∧ (noteA xs).length ≤ 7000000000000 ∧
  (∀ k ∈ kidsA xs,k.length < xs.length ∧ rightA k = true ∧ formA k = k ∧ Fine k ∧ Slim k) ∧ (kidsA xs).length ≤ 1048576 ∧ ((xs.getD 0 nd0).kind ≠ 5 → kidsA xs = []) ∧ Wr (xs.getD 0 nd0) ∧ (kidsT (kidsA xs)).length ≤ 7000000000000:=by
 have hpos:xs ≠ []:=by
  obtain ⟨s,hs'⟩:=right_some hr;obtain ⟨m,l',t,rfl,_⟩:=right_parts hs';simp
 have h0:xs.getD 0 nd0 ∈ xs:=by
  cases xs with
  | nil => exact absurd rfl hpos
  | cons a l => simp
 have hw:=tight_wr hr hf ht hs _ h0;have hlen:(noteA xs).length ≤ 7000000000000:=by
  have h1:=noteA_len hr hf ht hs;have h2:=wtL_le hs;have h3:xs.length * 6000360 ≤ 1100000 * 6000360:=Nat.mul_le_mul hf.1 (Nat.le_refl _);omega
 by_cases h5:(xs.getD 0 nd0).kind = 5
 ·have e:=note_nest hr h5
  obtain ⟨q1,q2,q3,q4,q5,q6⟩:=kids_nest hr h5;obtain ⟨f1,_,f3,_⟩:=form_nest hr hf h5;have k:=kids_tight hr hf ht h5;refine ⟨by rw [if_pos h5];exact e,hlen,fun x hx => ?_,by rw [q1];exact cnt_le1 _,fun h => absurd h5 h,hw,by rw [e,List.length_append] at hlen;omega⟩
  have hin:=kid_in_flat hx;exact ⟨by have:=hin.1;omega,(k x hx).1,(k x hx).2,(f1 x hx).2.1,fun m hm => hs m (by rw [← q5];exact List.mem_cons_of_mem _ (hin.2 m hm))⟩
 ·have e:=note_leaf hr h5
  obtain ⟨q1,q2,_⟩:=kids_plain hr h5;have z:(kidsT (kidsA xs)).length ≤ 7000000000000:=by rw [q2];simp [kidsT]
  exact ⟨by rw [if_neg h5];exact e,hlen,(by rw [q2];intro x hx;cases hx),(by rw [q2];simp),fun _ => q2,hw,z⟩
open Go.RowKit Go.Lib
theorem dwrite_any:∀ (N:Nat) (A:Option Addr) (n c:Nat) (xs:List Nd) (w:World),xs.length ≤ N → xs.length = n → n ≤ c → rightA xs = true → formA xs = xs → Fine xs → Slim xs → Nodes w w.heap.size A xs →
  Calls Tryz.prog 30 #[.slice A n c] w (Ret (.string ⟨(noteA xs).toArray⟩) w):=by
 intro N
 induction N with
 | zero =>
  intro A n c xs w hN hn hnc hr ht hf hs hns;exfalso;obtain ⟨s,hs'⟩:=right_some hr;obtain ⟨m,l',t,rfl,_⟩:=right_parts hs';simp at hN
 | succ N ih =>
 intro A n c xs w hN hn hnc hr ht hf hs hns;have IH:=Hh ih;have HN:=Hh hn;have hpos:0 < n:=by
  rw [← hn];obtain ⟨s,hs'⟩:=right_some hr;obtain ⟨m,l',t,rfl,_⟩:=right_parts hs';simp
 obtain ⟨p1,p2,p3,p4,p5,p6,p7⟩:=tight_parts hr hf ht hs;have hnb:n ≤ 1100000:=by rw [← hn];exact hf.1
 have HKD:=Hh (fun W (h:Nodes W W.heap.size A xs) => rkids_any A n c xs W hn hnb hnc hf.2.1 h);have HNA:=Hh hns;obtain ⟨b,off,hA,hb,hat⟩:=hns (by rw [hn];exact hpos)
 subst hA;have hat0:=hat 0 (by rw [hn];exact hpos)
 rw [Nat.zero_mul,Nat.add_zero] at hat0;have HK:Hid (∀ k ∈ kidsA xs,k.length ≤ N ∧ rightA k = true ∧ formA k = k ∧ Fine k ∧ Slim k):=Hh (fun k hk => by have:=p3 k hk;exact ⟨by omega,this.2⟩)
 obtain ⟨nd,hnd⟩:∃ nd,xs.getD 0 nd0 = nd:=⟨_,rfl⟩;rw [hnd] at hat0 p1 p5 p6;obtain ⟨ks,hks⟩:∃ ks,kidsA xs = ks:=⟨_,rfl⟩;rw [hks] at HKD HK p1 p4 p5 p7;obtain ⟨T,hT⟩:∃ T,noteA xs = T:=⟨_,rfl⟩;rw [hT] at p1 p2 ⊢;obtain ⟨κ,hκ⟩:∃ κ,ks.length = κ:=⟨_,rfl⟩;rw [hκ] at p4;have HKL:=Hh hκ;obtain ⟨A1,c1,A2,c2,A3,c3,r0,r1,r2,r3,hnd'⟩:=hat0;obtain ⟨l1,hl1⟩:∃ l1,nd.shp.length = l1:=⟨_,rfl⟩;obtain ⟨l2,hl2⟩:∃ l2,nd.ints.length = l2:=⟨_,rfl⟩;obtain ⟨l3,hl3⟩:∃ l3,nd.decs.length = l3:=⟨_,rfl⟩;obtain ⟨w1,w2,w3,w4⟩:=p6.parts;have s2:=p6.2.1;have s3:=p6.2.2;rw [hl1] at w1 r1;rw [hl2] at s2 r2;rw [hl3] at s3 r3;have HSHW:=Hh (fun W (h:Nums .i64 W W.heap.size A1 nd.shp) => Num.rints_any A1 l1 c1 nd.shp W hl1 (by omega) h w2)
 have HTXW:=Hh (fun W (h:Nums .i64 W W.heap.size A2 nd.ints) => Quo.rtext_any A2 l2 c2 nd.ints W hl2 (by omega) h w3)
 have HNMW:=Hh (fun W (h:IsNd W W.heap.size A1 A2 A3 nd) => dnumbers_any nd A1 A2 A3 l1 c1 l2 c2 l3 c3 W hl2 hl3 s2 s3 w3 w4 h);have HSL:=Hh (Num.ints_len w2);have HP1:=Hh p1;have HP2:=Hh p2;have HP5:=Hh p5;have HP7:=Hh p7;have HLS:=Hh (show nd.shp.length = l1 ∧ nd.ints.length = l2 ∧ nd.decs.length = l3 from ⟨hl1,hl2,hl3⟩);have hbx:=boxN_new w nd.kind A1 l1 c1 A2 l2 c2 A3 l3 c3;have hgn:=grow_new w (.cells #[.int .i64 nd.kind,.slice A1 l1 c1,.slice A2 l2 c2,.slice A3 l3 c3] 34);obtain ⟨y,hy⟩:∃ y,w.heap.size = y:=⟨_,rfl⟩;rw [hy] at hbx;have HBX:=Hh hbx;have HND:=Hh (hnd'.grow hgn);have HG:=Hh hgn;have HKW:=Hh (HKD.out _ (HNA.out.grow hgn));clear hN hn hr ht hf hs hb hat hnd hks hT hκ hl1 hl2 hl3 w2 w3 w4 p1 p2 p5 p6 p7 p3 hbx hgn hnd' ih hns HNA HKD
 go_enter Tryz.func30,Tryz.ntmps30
 go_wp2_with fail;refine (HKW.out).mono ?_;rintro e v1 ⟨AK,cK,rfl,_,hck,hka,hg⟩;replace HBX:=Hh (BoxN.grow HBX.out hg);replace HND:=Hh (HND.out.grow hg);replace HG:=Hh (HG.out.trans hg);have HKA:=Hh hka;simp only [HKL.out];clear hka hg HKW hy r0 r1 r2 r3;go_wp2
 go_loopg [5,6] κ (fun gk s5 s6 wr => ∃ j:Nat,j ≤ κ ∧ gk = κ - j ∧ s6 = .int .i64 j ∧ s5 = .string ⟨(kidsT (ks.take j)).toArray⟩ ∧ Hid (Grow v1 wr))
 case atStart => exact ⟨0,Nat.zero_le _,rfl,rfl,by simp [kidsT],Hh (Grow.refl _)⟩
 case round =>
  obtain ⟨j,hj,rfl,rfl,rfl,HGR⟩:=hrel
  by_cases hjk:j < κ
  ·have hji:((j:Nat):Int) < ((κ:Nat):Int):=by omega
   have hjl:j < ks.length:=by rw [HKL.out];exact hjk
   have hmem:ks.getD j [] ∈ ks:=by rw [show ks.getD j [] = ks[j] by simp [List.getD,hjl]];exact List.getElem_mem hjl
   obtain ⟨bk,ok,hAK,hbk,hkc⟩:=(HKA.out.grow HGR.out) (by omega)
   subst hAK;obtain ⟨A',c',q1,q2,q3⟩:=hkc j hjl;have HST:=Hh (kidsT_step hjl);have hle:=kidsT_take_le ks (j + 1);rw [HST.out] at hle;have hle7:=HP7.out;simp only [List.length_append,List.length_cons,List.length_nil] at hle;obtain ⟨k,hk⟩:∃ k,ks.getD j [] = k:=⟨_,rfl⟩;rw [hk] at q1 q2 q3 hmem HST hle;obtain ⟨m,hm⟩:∃ m,k.length = m:=⟨_,rfl⟩;rw [hm] at q1 q2;obtain ⟨g1,g2,g3,g4,g5⟩:=HK.out k hmem;have HKX:=Hh (IH.out A' m c' k wr g1 hm q2 g2 g3 g4 g5 q3);obtain ⟨P,hP⟩:∃ P,kidsT (ks.take j) = P:=⟨_,rfl⟩;have hPl:P.length = (kidsT (ks.take j)).length:=by rw [← hP]
   have HE:Hid (kidsT (ks.take (j + 1)) = P ++ [40] ++ noteA k ++ [41]):=Hh (by rw [HST.out,hP];simp)
   rw [hP];have e1:=Quo.str_app P [40];have e2:=Quo.str_app (P ++ [40]) (noteA k);have e3:=Quo.str_app (P ++ [40] ++ noteA k) [41];have z1:¬ 140737488355327 < P.length + 1:=by omega
   have z2:¬ 140737488355327 < P.length + 1 + (noteA k).length:=by omega
   have z3:¬ 140737488355327 < P.length + 1 + (noteA k).length + 1:=by omega
   clear hP hPl hk hmem hle hkc q2 q3 hm HST g1 g2 g3 g4 g5 hle7;generalize noteA k = U at *;go_wp2_with fail;refine (HKX.out).mono ?_;rintro e w6 ⟨rfl,hg6⟩;have HG6:=Hh (HGR.out.trans hg6);clear hg6 HKX;go_wp2;go_roundg (κ - (j + 1))
   case rel => exact ⟨j + 1,hjk,rfl,by first | rfl | go_num,by rw [HE.out];exact congrArg Value.string ((Quo.str_app (P ++ 40 :: U) [41]).trans (by simp)),HG6⟩
   case measure => omega
  ·obtain rfl:κ = j:=by omega
   have hfull:ks.take κ = ks:=List.take_of_length_le (by rw [HKL.out];exact Nat.le_refl _)
   rw [hfull];clear hfull IH HK HKA;have HNX:=Hh (HND.out.grow HGR.out);have HGW:=Hh (HG.out.trans HGR.out);have HBN:=Hh (BoxN.grow HBX.out HGR.out);have HTX:=Hh (HTXW.out wr HNX.out.2.1);have b0:=HBN.out.at0;have b1:=HBN.out.at1;have b2:=HBN.out.at2;have b3:=HBN.out.at3;have hp7:=HP7.out;have hp2:=HP2.out;have HHT:Hid (headT nd = if nd.shp = [] then (if nd.kind = 5 then [226,138,130] else []) else Num.intsT nd.shp ++ [226,141,180]):=Hh rfl
   have HLT:Hid (leafT nd = if nd.kind = 3 then Quo.textQ nd.ints else if nd.shp ≠ [] ∧ nd.kind = 2 ∧ nd.ints = [] ∧ nd.decs = [] then [48] else numsT nd):=Hh rfl
   have HS0:Hid (nd.shp = [] ↔ l1 = 0):=Hh (by rw [← HLS.out.1];exact List.length_eq_zero_iff.symm)
   have HI0:Hid (nd.ints = [] ↔ l2 = 0):=Hh (by rw [← HLS.out.2.1];exact List.length_eq_zero_iff.symm)
   have HD0:Hid (nd.decs = [] ↔ l3 = 0):=Hh (by rw [← HLS.out.2.2];exact List.length_eq_zero_iff.symm)
   have hll:l1 ≤ 16 ∧ l2 ≤ 100000 ∧ l3 ≤ 100000:=⟨w1,s2,s3⟩;clear HND HG HBX HGR hj;generalize hQ:Quo.textQ nd.ints = Q at *;generalize hM:numsT nd = M at *;generalize hY:kidsT ks = Y at *;clear hQ hM hY
   by_cases k5:nd.kind = 5
   ·have HNT:=HP1.out
    rw [if_pos k5] at HNT;have k5b:(nd.kind == 5) = true:=by rw [k5];rfl
    have k5n:(nd.kind != 5) = false:=by rw [k5];rfl
    have k3b:(nd.kind == 3) = false:=by rw [k5];rfl
    have k3n:(nd.kind != 3) = true:=by rw [k5];rfl
    have k2b:(nd.kind == 2) = false:=by rw [k5];rfl
    by_cases h0:l1 = 0
    ·have h0b:(((l1:Nat):Int) == 0) = true:=by rw [h0];rfl
     have HH:=HHT.out;rw [if_pos (HS0.out.2 h0),if_pos k5] at HH;rw [HH] at HNT;replace HNT:=Hh HNT;have e1:=Quo.str_app [226,138,130] Y;have z1:¬ 140737488355327 < 3 + Y.length:=by omega
     clear HH k5 h0 HHT HLT HP1;generalize nd.kind = kd at *;go_wp2;go_ret;exact ⟨by rw [HNT.out];rfl,HGW.out⟩
    ·have h0b:(((l1:Nat):Int) == 0) = false:=by simpa using h0
     have HH:=HHT.out;rw [if_neg (fun h => h0 (HS0.out.1 h))] at HH;rw [HH] at HNT;replace HNT:=Hh HNT;have HLB:Hid (Y.length ≤ 7000000000000):=Hh hp7;have hw1:IntKind.i64.wrap (((l2:Nat):Int) + ((l3:Nat):Int)) = ((l2:Nat):Int) + ((l3:Nat):Int):=by rw [IntKind.wrap_i64];omega
     have hw2:IntKind.i64.wrap (((l2:Nat):Int) + ((l3:Nat):Int) + ((κ:Nat):Int)) = ((l2:Nat):Int) + ((l3:Nat):Int) + ((κ:Nat):Int):=by rw [IntKind.wrap_i64];omega
     obtain ⟨γ,hsu⟩:∃ γ,((((l2:Nat):Int) + ((l3:Nat):Int) + ((κ:Nat):Int)) == 0) = γ:=⟨_,rfl⟩;clear HH k5 h0 HHT HLT HP1;generalize nd.kind = kd at *
     cases γ with
     | true =>
       go_wp2_with fail;refine (HTX.out).mono ?_;rintro e wt ⟨rfl,hg⟩;replace HNX:=Hh (HNX.out.grow hg);have HSH:=Hh (HSHW.out _ HNX.out.1);have HNM:=Hh (HNMW.out _ HNX.out);have HBT:=Hh (BoxN.grow HBN.out hg);clear b0 b1 b2 b3;have b0:=HBT.out.at0;have b1:=HBT.out.at1;have b2:=HBT.out.at2;have b3:=HBT.out.at3;replace HGW:=Hh (HGW.out.trans hg);clear hg HTX HBN;have e1:=Quo.str_app (Num.intsT nd.shp) [226,141,180];have e2:=Quo.str_app (Num.intsT nd.shp ++ [226,141,180]) Y;have z1:¬ 140737488355327 < (Num.intsT nd.shp).length + 3:=by have:=HSL.out;rw [HLS.out.1] at this;omega
       have z2:¬ 140737488355327 < (Num.intsT nd.shp).length + 3 + (Y).length:=by have:=HSL.out;rw [HLS.out.1] at this;have:=HLB.out;omega
       generalize Num.intsT nd.shp = X at *;go_wp2_with fail;refine (HSH.out).mono ?_;rintro e wz ⟨rfl,hg⟩;replace HGW:=Hh (HGW.out.trans hg);clear hg HSH;go_wp2;go_ret;exact ⟨by rw [HNT.out];simp,HGW.out⟩
     | false =>
       go_wp2_with fail;refine (HTX.out).mono ?_;rintro e wt ⟨rfl,hg⟩;replace HNX:=Hh (HNX.out.grow hg);have HSH:=Hh (HSHW.out _ HNX.out.1);have HNM:=Hh (HNMW.out _ HNX.out);have HBT:=Hh (BoxN.grow HBN.out hg);clear b0 b1 b2 b3;have b0:=HBT.out.at0;have b1:=HBT.out.at1;have b2:=HBT.out.at2;have b3:=HBT.out.at3;replace HGW:=Hh (HGW.out.trans hg);clear hg HTX HBN;have e1:=Quo.str_app (Num.intsT nd.shp) [226,141,180];have e2:=Quo.str_app (Num.intsT nd.shp ++ [226,141,180]) Y;have z1:¬ 140737488355327 < (Num.intsT nd.shp).length + 3:=by have:=HSL.out;rw [HLS.out.1] at this;omega
       have z2:¬ 140737488355327 < (Num.intsT nd.shp).length + 3 + (Y).length:=by have:=HSL.out;rw [HLS.out.1] at this;have:=HLB.out;omega
       generalize Num.intsT nd.shp = X at *;go_wp2_with fail;refine (HSH.out).mono ?_;rintro e wz ⟨rfl,hg⟩;replace HGW:=Hh (HGW.out.trans hg);clear hg HSH;go_wp2;go_ret;exact ⟨by rw [HNT.out];simp,HGW.out⟩
   ·have HNT:=HP1.out
    rw [if_neg k5] at HNT;have k5b:(nd.kind == 5) = false:=by simpa using k5
    have k5n:(nd.kind != 5) = true:=by rw [bne_iff_ne];exact k5
    have hks0:ks = []:=HP5.out k5;have hκ0:κ = 0:=by rw [← HKL.out,hks0];rfl
    by_cases k3:nd.kind = 3
    ·have k3b:(nd.kind == 3) = true:=by rw [k3];rfl
     have k3n:(nd.kind != 3) = false:=by rw [k3];rfl
     have k2b:(nd.kind == 2) = false:=by rw [k3];rfl
     have HL:=HLT.out;rw [if_pos k3] at HL;rw [HL] at HNT
     by_cases h0:l1 = 0
     ·have h0b:(((l1:Nat):Int) == 0) = true:=by rw [h0];rfl
      have HH:=HHT.out;rw [if_pos (HS0.out.2 h0),if_neg k5] at HH;rw [HH,List.nil_append] at HNT;replace HNT:=Hh HNT;clear HH HL k5 k3 h0 HHT HLT HP1 hks0 hκ0;generalize nd.kind = kd at *;go_wp2_with fail;refine (HTX.out).mono ?_;rintro e wt ⟨rfl,hg⟩;replace HNX:=Hh (HNX.out.grow hg);have HSH:=Hh (HSHW.out _ HNX.out.1);have HNM:=Hh (HNMW.out _ HNX.out);have HBT:=Hh (BoxN.grow HBN.out hg);clear b0 b1 b2 b3;have b0:=HBT.out.at0;have b1:=HBT.out.at1;have b2:=HBT.out.at2;have b3:=HBT.out.at3;replace HGW:=Hh (HGW.out.trans hg);clear hg HTX HBN;go_wp2;go_ret;exact ⟨by rw [HNT.out];rfl,HGW.out⟩
     ·have h0b:(((l1:Nat):Int) == 0) = false:=by simpa using h0
      have HH:=HHT.out;rw [if_neg (fun h => h0 (HS0.out.1 h))] at HH;rw [HH] at HNT;have HLB:Hid (Q.length ≤ 7000000000000):=Hh (by rw [HNT] at hp2;simp only [List.length_append] at hp2;omega)
      replace HNT:=Hh HNT;have hw1:IntKind.i64.wrap (((l2:Nat):Int) + ((l3:Nat):Int)) = ((l2:Nat):Int) + ((l3:Nat):Int):=by rw [IntKind.wrap_i64];omega
      have hw2:IntKind.i64.wrap (((l2:Nat):Int) + ((l3:Nat):Int) + ((κ:Nat):Int)) = ((l2:Nat):Int) + ((l3:Nat):Int) + ((κ:Nat):Int):=by rw [IntKind.wrap_i64];omega
      obtain ⟨γ,hsu⟩:∃ γ,((((l2:Nat):Int) + ((l3:Nat):Int) + ((κ:Nat):Int)) == 0) = γ:=⟨_,rfl⟩;clear HH HL k5 k3 h0 HHT HLT HP1 hks0 hκ0;generalize nd.kind = kd at *
      cases γ with
      | true =>
        go_wp2_with fail;refine (HTX.out).mono ?_;rintro e wt ⟨rfl,hg⟩;replace HNX:=Hh (HNX.out.grow hg);have HSH:=Hh (HSHW.out _ HNX.out.1);have HNM:=Hh (HNMW.out _ HNX.out);have HBT:=Hh (BoxN.grow HBN.out hg);clear b0 b1 b2 b3;have b0:=HBT.out.at0;have b1:=HBT.out.at1;have b2:=HBT.out.at2;have b3:=HBT.out.at3;replace HGW:=Hh (HGW.out.trans hg);clear hg HTX HBN;have e1:=Quo.str_app (Num.intsT nd.shp) [226,141,180];have e2:=Quo.str_app (Num.intsT nd.shp ++ [226,141,180]) Q;have z1:¬ 140737488355327 < (Num.intsT nd.shp).length + 3:=by have:=HSL.out;rw [HLS.out.1] at this;omega
        have z2:¬ 140737488355327 < (Num.intsT nd.shp).length + 3 + (Q).length:=by have:=HSL.out;rw [HLS.out.1] at this;have:=HLB.out;omega
        generalize Num.intsT nd.shp = X at *;go_wp2_with fail;refine (HSH.out).mono ?_;rintro e wz ⟨rfl,hg⟩;replace HGW:=Hh (HGW.out.trans hg);clear hg HSH;go_wp2;go_ret;exact ⟨by rw [HNT.out];simp,HGW.out⟩
      | false =>
        go_wp2_with fail;refine (HTX.out).mono ?_;rintro e wt ⟨rfl,hg⟩;replace HNX:=Hh (HNX.out.grow hg);have HSH:=Hh (HSHW.out _ HNX.out.1);have HNM:=Hh (HNMW.out _ HNX.out);have HBT:=Hh (BoxN.grow HBN.out hg);clear b0 b1 b2 b3;have b0:=HBT.out.at0;have b1:=HBT.out.at1;have b2:=HBT.out.at2;have b3:=HBT.out.at3;replace HGW:=Hh (HGW.out.trans hg);clear hg HTX HBN;have e1:=Quo.str_app (Num.intsT nd.shp) [226,141,180];have e2:=Quo.str_app (Num.intsT nd.shp ++ [226,141,180]) Q;have z1:¬ 140737488355327 < (Num.intsT nd.shp).length + 3:=by have:=HSL.out;rw [HLS.out.1] at this;omega
        have z2:¬ 140737488355327 < (Num.intsT nd.shp).length + 3 + (Q).length:=by have:=HSL.out;rw [HLS.out.1] at this;have:=HLB.out;omega
        generalize Num.intsT nd.shp = X at *;go_wp2_with fail;refine (HSH.out).mono ?_;rintro e wz ⟨rfl,hg⟩;replace HGW:=Hh (HGW.out.trans hg);clear hg HSH;go_wp2;go_ret;exact ⟨by rw [HNT.out];simp,HGW.out⟩
    ·have k3b:(nd.kind == 3) = false:=by simpa using k3
     have k3n:(nd.kind != 3) = true:=by rw [bne_iff_ne];exact k3
     have HL:=HLT.out;rw [if_neg k3] at HL
     by_cases h0:l1 = 0
     ·have h0b:(((l1:Nat):Int) == 0) = true:=by rw [h0];rfl
      have HH:=HHT.out;rw [if_pos (HS0.out.2 h0),if_neg k5] at HH;rw [if_neg (fun h => h.1 (HS0.out.2 h0))] at HL;rw [HL,HH,List.nil_append] at HNT;replace HNT:=Hh HNT;clear HH HL k5 k3 h0 HHT HLT HP1 hks0 hκ0;generalize hkd:nd.kind = kd at *;go_wp2_with fail;refine (HTX.out).mono ?_;rintro e wt ⟨rfl,hg⟩;replace HNX:=Hh (HNX.out.grow hg);have HSH:=Hh (HSHW.out _ HNX.out.1);have HNM:=Hh (HNMW.out _ HNX.out);have HBT:=Hh (BoxN.grow HBN.out hg);clear b0 b1 b2 b3;have b0:=HBT.out.at0;have b1:=HBT.out.at1;have b2:=HBT.out.at2;have b3:=HBT.out.at3;replace HGW:=Hh (HGW.out.trans hg);clear hg HTX HBN;go_wp2_with fail;refine (HNM.out).mono ?_;rintro e wn ⟨rfl,hg⟩;replace HNX:=Hh (HNX.out.grow hg);replace HSH:=Hh (HSHW.out _ HNX.out.1);have HBM:=Hh (BoxN.grow HBT.out hg);clear b0 b1 b2 b3;have b0:=HBM.out.at0;have b1:=HBM.out.at1;have b2:=HBM.out.at2;have b3:=HBM.out.at3;replace HGW:=Hh (HGW.out.trans hg);clear hg HNM HBT;go_wp2;go_ret;exact ⟨by rw [HNT.out];rfl,HGW.out⟩
     ·have h0b:(((l1:Nat):Int) == 0) = false:=by simpa using h0
      have HH:=HHT.out;rw [if_neg (fun h => h0 (HS0.out.1 h))] at HH;rw [HH] at HNT
      by_cases hz:nd.kind = 2 ∧ l2 = 0 ∧ l3 = 0
      ·have HSU:Hid (((((l2:Nat):Int) + ((l3:Nat):Int) + ((κ:Nat):Int)) == 0) = true):=Hh (by rw [hz.2.1,hz.2.2,hκ0];rfl)
       have k2b:(nd.kind == 2) = true:=by rw [hz.1];rfl
       rw [if_pos ⟨fun h => h0 (HS0.out.1 h),hz.1,HI0.out.2 hz.2.1,HD0.out.2 hz.2.2⟩] at HL;rw [HL] at HNT;have HLB:Hid (([48]:List UInt8).length ≤ 7000000000000):=Hh (by decide)
       replace HNT:=Hh HNT;have hw1:IntKind.i64.wrap (((l2:Nat):Int) + ((l3:Nat):Int)) = ((l2:Nat):Int) + ((l3:Nat):Int):=by rw [IntKind.wrap_i64];omega
       have hw2:IntKind.i64.wrap (((l2:Nat):Int) + ((l3:Nat):Int) + ((κ:Nat):Int)) = ((l2:Nat):Int) + ((l3:Nat):Int) + ((κ:Nat):Int):=by rw [IntKind.wrap_i64];omega
       have hsu:=HSU.out;clear HH HL k5 k3 h0 HHT HLT HP1 hks0 hκ0 hz;generalize hkd:nd.kind = kd at *;clear hkd;go_wp2_with fail;refine (HTX.out).mono ?_;rintro e wt ⟨rfl,hg⟩;replace HNX:=Hh (HNX.out.grow hg);have HSH:=Hh (HSHW.out _ HNX.out.1);have HNM:=Hh (HNMW.out _ HNX.out);have HBT:=Hh (BoxN.grow HBN.out hg);clear b0 b1 b2 b3;have b0:=HBT.out.at0;have b1:=HBT.out.at1;have b2:=HBT.out.at2;have b3:=HBT.out.at3;replace HGW:=Hh (HGW.out.trans hg);clear hg HTX HBN;go_wp2_with fail;refine (HNM.out).mono ?_;rintro e wn ⟨rfl,hg⟩;replace HNX:=Hh (HNX.out.grow hg);replace HSH:=Hh (HSHW.out _ HNX.out.1);have HBM:=Hh (BoxN.grow HBT.out hg);clear b0 b1 b2 b3;have b0:=HBM.out.at0;have b1:=HBM.out.at1;have b2:=HBM.out.at2;have b3:=HBM.out.at3;replace HGW:=Hh (HGW.out.trans hg);clear hg HNM HBT;have e1:=Quo.str_app (Num.intsT nd.shp) [226,141,180];have e2:=Quo.str_app (Num.intsT nd.shp ++ [226,141,180]) [48];have z1:¬ 140737488355327 < (Num.intsT nd.shp).length + 3:=by have:=HSL.out;rw [HLS.out.1] at this;omega
       have z2:¬ 140737488355327 < (Num.intsT nd.shp).length + 3 + ([48]).length:=by have:=HSL.out;rw [HLS.out.1] at this;have:=HLB.out;simp only [List.length_cons,List.length_nil];omega
       generalize Num.intsT nd.shp = X at *;go_wp2_with fail;refine (HSH.out).mono ?_;rintro e wz ⟨rfl,hg⟩;replace HGW:=Hh (HGW.out.trans hg);clear hg HSH;go_wp2;go_ret;exact ⟨by rw [HNT.out];simp,HGW.out⟩
      ·have HSU:Hid (nd.kind = 2 → ((((l2:Nat):Int) + ((l3:Nat):Int) + ((κ:Nat):Int)) == 0) = false):=Hh (fun h2 => by
        rw [hκ0,beq_eq_false_iff_ne];intro h
        refine hz ⟨h2,?_,?_⟩ <;> omega)
       rw [if_neg (fun h => hz ⟨h.2.1,HI0.out.1 h.2.2.1,HD0.out.1 h.2.2.2⟩)] at HL;rw [HL] at HNT;have HLB:Hid (M.length ≤ 7000000000000):=Hh (by rw [HNT] at hp2;simp only [List.length_append] at hp2;omega)
       replace HNT:=Hh HNT;have hw1:IntKind.i64.wrap (((l2:Nat):Int) + ((l3:Nat):Int)) = ((l2:Nat):Int) + ((l3:Nat):Int):=by rw [IntKind.wrap_i64];omega
       have hw2:IntKind.i64.wrap (((l2:Nat):Int) + ((l3:Nat):Int) + ((κ:Nat):Int)) = ((l2:Nat):Int) + ((l3:Nat):Int) + ((κ:Nat):Int):=by rw [IntKind.wrap_i64];omega
       by_cases k2:nd.kind = 2
       ·have k2b:(nd.kind == 2) = true:=by rw [k2];rfl
        have hsu:=HSU.out k2;clear HH HL k5 k3 h0 HHT HLT HP1 hks0 hκ0 hz k2;generalize hkd:nd.kind = kd at *;clear hkd;go_wp2_with fail;refine (HTX.out).mono ?_;rintro e wt ⟨rfl,hg⟩;replace HNX:=Hh (HNX.out.grow hg);have HSH:=Hh (HSHW.out _ HNX.out.1);have HNM:=Hh (HNMW.out _ HNX.out);have HBT:=Hh (BoxN.grow HBN.out hg);clear b0 b1 b2 b3;have b0:=HBT.out.at0;have b1:=HBT.out.at1;have b2:=HBT.out.at2;have b3:=HBT.out.at3;replace HGW:=Hh (HGW.out.trans hg);clear hg HTX HBN;go_wp2_with fail;refine (HNM.out).mono ?_;rintro e wn ⟨rfl,hg⟩;replace HNX:=Hh (HNX.out.grow hg);replace HSH:=Hh (HSHW.out _ HNX.out.1);have HBM:=Hh (BoxN.grow HBT.out hg);clear b0 b1 b2 b3;have b0:=HBM.out.at0;have b1:=HBM.out.at1;have b2:=HBM.out.at2;have b3:=HBM.out.at3;replace HGW:=Hh (HGW.out.trans hg);clear hg HNM HBT;have e1:=Quo.str_app (Num.intsT nd.shp) [226,141,180];have e2:=Quo.str_app (Num.intsT nd.shp ++ [226,141,180]) M;have z1:¬ 140737488355327 < (Num.intsT nd.shp).length + 3:=by have:=HSL.out;rw [HLS.out.1] at this;omega
        have z2:¬ 140737488355327 < (Num.intsT nd.shp).length + 3 + (M).length:=by have:=HSL.out;rw [HLS.out.1] at this;have:=HLB.out;omega
        generalize Num.intsT nd.shp = X at *;go_wp2_with fail;refine (HSH.out).mono ?_;rintro e wz ⟨rfl,hg⟩;replace HGW:=Hh (HGW.out.trans hg);clear hg HSH;go_wp2;go_ret;exact ⟨by rw [HNT.out];simp,HGW.out⟩
       ·have k2b:(nd.kind == 2) = false:=by simpa using k2
        obtain ⟨γ,hsu⟩:∃ γ,((((l2:Nat):Int) + ((l3:Nat):Int) + ((κ:Nat):Int)) == 0) = γ:=⟨_,rfl⟩;clear HH HL k5 k3 h0 HHT HLT HP1 hks0 hκ0 hz k2;generalize hkd:nd.kind = kd at *;clear hkd
        cases γ with
        | true =>
         go_wp2_with fail;refine (HTX.out).mono ?_;rintro e wt ⟨rfl,hg⟩;replace HNX:=Hh (HNX.out.grow hg);have HSH:=Hh (HSHW.out _ HNX.out.1);have HNM:=Hh (HNMW.out _ HNX.out);have HBT:=Hh (BoxN.grow HBN.out hg);clear b0 b1 b2 b3;have b0:=HBT.out.at0;have b1:=HBT.out.at1;have b2:=HBT.out.at2;have b3:=HBT.out.at3;replace HGW:=Hh (HGW.out.trans hg);clear hg HTX HBN;go_wp2_with fail;refine (HNM.out).mono ?_;rintro e wn ⟨rfl,hg⟩;replace HNX:=Hh (HNX.out.grow hg);replace HSH:=Hh (HSHW.out _ HNX.out.1);have HBM:=Hh (BoxN.grow HBT.out hg);clear b0 b1 b2 b3;have b0:=HBM.out.at0;have b1:=HBM.out.at1;have b2:=HBM.out.at2;have b3:=HBM.out.at3;replace HGW:=Hh (HGW.out.trans hg);clear hg HNM HBT;have e1:=Quo.str_app (Num.intsT nd.shp) [226,141,180];have e2:=Quo.str_app (Num.intsT nd.shp ++ [226,141,180]) M;have z1:¬ 140737488355327 < (Num.intsT nd.shp).length + 3:=by have:=HSL.out;rw [HLS.out.1] at this;omega
         have z2:¬ 140737488355327 < (Num.intsT nd.shp).length + 3 + (M).length:=by have:=HSL.out;rw [HLS.out.1] at this;have:=HLB.out;omega
         generalize Num.intsT nd.shp = X at *;go_wp2_with fail;refine (HSH.out).mono ?_;rintro e wz ⟨rfl,hg⟩;replace HGW:=Hh (HGW.out.trans hg);clear hg HSH;go_wp2;go_ret;exact ⟨by rw [HNT.out];simp,HGW.out⟩
        | false =>
         go_wp2_with fail;refine (HTX.out).mono ?_;rintro e wt ⟨rfl,hg⟩;replace HNX:=Hh (HNX.out.grow hg);have HSH:=Hh (HSHW.out _ HNX.out.1);have HNM:=Hh (HNMW.out _ HNX.out);have HBT:=Hh (BoxN.grow HBN.out hg);clear b0 b1 b2 b3;have b0:=HBT.out.at0;have b1:=HBT.out.at1;have b2:=HBT.out.at2;have b3:=HBT.out.at3;replace HGW:=Hh (HGW.out.trans hg);clear hg HTX HBN;go_wp2_with fail;refine (HNM.out).mono ?_;rintro e wn ⟨rfl,hg⟩;replace HNX:=Hh (HNX.out.grow hg);replace HSH:=Hh (HSHW.out _ HNX.out.1);have HBM:=Hh (BoxN.grow HBT.out hg);clear b0 b1 b2 b3;have b0:=HBM.out.at0;have b1:=HBM.out.at1;have b2:=HBM.out.at2;have b3:=HBM.out.at3;replace HGW:=Hh (HGW.out.trans hg);clear hg HNM HBT;have e1:=Quo.str_app (Num.intsT nd.shp) [226,141,180];have e2:=Quo.str_app (Num.intsT nd.shp ++ [226,141,180]) M;have z1:¬ 140737488355327 < (Num.intsT nd.shp).length + 3:=by have:=HSL.out;rw [HLS.out.1] at this;omega
         have z2:¬ 140737488355327 < (Num.intsT nd.shp).length + 3 + (M).length:=by have:=HSL.out;rw [HLS.out.1] at this;have:=HLB.out;omega
         generalize Num.intsT nd.shp = X at *;go_wp2_with fail;refine (HSH.out).mono ?_;rintro e wz ⟨rfl,hg⟩;replace HGW:=Hh (HGW.out.trans hg);clear hg HSH;go_wp2;go_ret;exact ⟨by rw [HNT.out];simp,HGW.out⟩
open Go.RowKit Go.Lib
theorem dtext_any (A:Option Addr) (n c:Nat) (xs:List Nd) (w:World) (hn:xs.length = n) (hnc:n ≤ c) (hf:Fine xs) (hs:Slim xs) (hns:Nodes w w.heap.size A xs) :
  Calls Tryz.prog 14 #[.slice A n c] w (Ret (.string ⟨(noteT xs).toArray⟩) w):=by
 have HC:=Hh (rtright_any A n c xs w hn hnc hf hns);have HNS:=Hh hns
 by_cases ht:rightA xs = true ∧ formA xs = xs
 ·have HW:=Hh (fun W (h:Nodes W W.heap.size A xs) => dwrite_any xs.length A n c xs W (Nat.le_refl _) hn hnc ht.1 ht.2 hf hs h)
  have HT:Hid (noteT xs = noteA xs):=Hh (by unfold noteT;rw [if_pos ht])
  rw [show (rightA xs && decide (xs = formA xs)) = true by rw [ht.1,ht.2];simp] at HC
  clear hn hf hs hns ht
  go_enter Tryz.func14,Tryz.ntmps14
  go_wp2_with fail;refine (HC.out).mono ?_;rintro e w1 ⟨rfl,hg1⟩;have HG:=Hh hg1;clear hg1 HC;go_wp2_with fail;refine (HW.out _ (HNS.out.grow HG.out)).mono ?_;rintro e w2 ⟨rfl,hg⟩;have HG2:=Hh (HG.out.trans hg);clear hg HW;go_wp2;go_ret;exact ⟨by rw [HT.out];rfl,HG2.out⟩
 ·have HT:Hid (noteT xs = []):=Hh (by unfold noteT;rw [if_neg ht])
  rw [show (rightA xs && decide (xs = formA xs)) = false by
   cases hr:rightA xs with
   | false => rfl
   | true => rw [Bool.true_and];simp;intro e;exact ht ⟨hr,e.symm⟩] at HC
  clear hn hf hs hns ht
  go_enter Tryz.func14,Tryz.ntmps14
  go_wp2_with fail;refine (HC.out).mono ?_;rintro e w1 ⟨rfl,hg1⟩;have HG:=Hh hg1;clear hg1 HC;go_wp2;go_ret;exact ⟨by rw [HT.out];rfl,HG.out⟩
end Go.Proofs.YteoogioanjkacaaGreatDoor
namespace Go.Proofs.YteoogioanjkacaaGreatDoor.Num
open Go.Lib
def scan:Nat → List UInt8 → Option (Nat × List UInt8)
 | n,[] => some (n,[])
 | n,c :: r =>
  if 48 ≤ c.toNat ∧ c.toNat ≤ 57 then
   (if (9223372036854775808 - (c.toNat - 48)) / 10 < n then none else scan (10 * n + (c.toNat - 48)) r)
  else some (n,c :: r)
theorem scan_nil (n:Nat):scan n [] = some (n,[]):=rfl
theorem scan_other {n:Nat} {c:UInt8} {r:List UInt8} (h:¬ (48 ≤ c.toNat ∧ c.toNat ≤ 57)):scan n (c :: r) = some (n,c :: r):=by rw [scan,if_neg h]
theorem scan_far {n:Nat} {c:UInt8} {r:List UInt8} (h:48 ≤ c.toNat ∧ c.toNat ≤ 57) (h2:(9223372036854775808 - (c.toNat - 48)) / 10 < n):scan n (c :: r) = none:=by rw [scan,if_pos h,if_pos h2]
theorem scan_on {n:Nat} {c:UInt8} {r:List UInt8} (h:48 ≤ c.toNat ∧ c.toNat ≤ 57) (h2:¬ (9223372036854775808 - (c.toNat - 48)) / 10 < n):scan n (c :: r) = scan (10 * n + (c.toNat - 48)) r:=by rw [scan,if_pos h,if_neg h2]
theorem scan_append:∀ (l t:List UInt8) (n k:Nat),scan n l = some (k,[]) → scan n (l ++ t) = scan k t
 | [],t,n,k,h => by
  rw [scan_nil] at h
  cases h
  rfl
 | c :: l,t,n,k,h => by
  by_cases hd:48 ≤ c.toNat ∧ c.toNat ≤ 57
  ·by_cases hf:(9223372036854775808 - (c.toNat - 48)) / 10 < n
   ·rw [scan_far hd hf] at h;cases h
   ·rw [scan_on hd hf] at h
    rw [List.cons_append,scan_on hd hf];exact scan_append l t _ k h
  ·rw [scan_other hd] at h
   cases h
theorem scan_dd0 (u:Nat) (hu:u ≤ 9223372036854775808):scan 0 (decDigits u) = some (u,[]):=by
 induction u using Nat.strongRecOn with
 | _ u ih =>
  by_cases h:u < 10
  ·rw [dd_small h,scan_on (by rw [dig_nat h];omega) (by omega),dig_nat h,scan_nil]
   congr 2;omega
  ·rw [dd_big h,scan_append _ _ _ _ (ih (u / 10) (by omega) (by omega)),scan_on (by rw [dig_nat (by omega)];omega) (by rw [dig_nat (by omega)];omega),dig_nat (by omega),scan_nil]
   congr 2;omega
theorem scan_dd {u:Nat} {t:List UInt8} (hu:u ≤ 9223372036854775808) (ht:t = [] ∨ ∃ t',t = 69 :: t'):scan 0 (decDigits u ++ t) = some (u,t):=by
 rw [scan_append _ _ _ _ (scan_dd0 u hu)]
 rcases ht with rfl | ⟨t',rfl⟩
 ·rfl
 ·exact scan_other (by decide)
theorem scan_le:∀ (l:List UInt8) (n k:Nat) (r:List UInt8),n ≤ 9223372036854775808 → scan n l = some (k,r) → k ≤ 9223372036854775808 ∧ r.length ≤ l.length
 | [],n,k,r,hn,h => by rw [scan_nil] at h;cases h;exact ⟨hn,Nat.le_refl _⟩
 | c :: l,n,k,r,hn,h => by
  by_cases hd:48 ≤ c.toNat ∧ c.toNat ≤ 57
  ·by_cases hf:(9223372036854775808 - (c.toNat - 48)) / 10 < n
   ·rw [scan_far hd hf] at h;cases h
   ·rw [scan_on hd hf] at h
    have:=scan_le l _ k r (by omega) h
    exact ⟨this.1,by simp only [List.length_cons];omega⟩
  ·rw [scan_other hd] at h
   cases h
   exact ⟨hn,Nat.le_refl _⟩
def below (l:List UInt8):Bool:=l.take 2 == [194,175]
def body (l:List UInt8):List UInt8:=if below l = true then l.drop 2 else l
def takeD (l:List UInt8):Int × List UInt8 :=
 match scan 0 (body l) with
 | none => (0,[])
 | some (n,r) => if below l = true then (-(n:Int),r) else if n = 9223372036854775808 then (0,[]) else ((n:Int),r)
theorem take_num {n:Int} {t:List UInt8} (hn:In n) (ht:t = [] ∨ ∃ t',t = 69 :: t'):takeD (num n ++ t) = (n,t):=by
 have h1:=hn.1;have h2:=hn.2
 unfold takeD
 by_cases h:n < 0
 ·have hb:below (num n ++ t) = true:=by rw [num_neg h];rfl
  have hd:body (num n ++ t) = decDigits n.natAbs ++ t:=by rw [body,if_pos hb,num_neg h];rfl
  rw [hd,scan_dd (by omega) ht]
  simp only;rw [if_pos hb,show -((n.natAbs:Nat):Int) = n by omega]
 ·have hb:below (num n ++ t) = false:=by
   rw [num_pos h];obtain ⟨c,r,hc,_,hc2⟩:=dd_cons n.natAbs;rw [hc];unfold below;rw [beq_eq_false_iff_ne];intro e;have:c = 194:=by simpa using congrArg List.head? e
   rw [this] at hc2;exact absurd hc2 (by decide)
  have hd:body (num n ++ t) = decDigits n.natAbs ++ t:=by rw [body,if_neg (by rw [hb];decide),num_pos h]
  rw [hd,scan_dd (by omega) ht]
  simp only;rw [if_neg (by rw [hb];decide),if_neg (by omega),show ((n.natAbs:Nat):Int) = n by omega]
theorem take_in (l:List UInt8):In (takeD l).1 ∧ (takeD l).2.length ≤ l.length:=by
 have hlen:(body l).length ≤ l.length:=by unfold body;split <;> simp
 unfold takeD;split
 ·exact ⟨⟨by decide,by decide⟩,by simp⟩
 ·rename_i n r h
  obtain ⟨hk,hr⟩:=scan_le (body l) 0 n r (by omega) h
  split
  ·exact ⟨⟨by simp only;omega,by simp only;omega⟩,by simp only;omega⟩
  ·split
   ·exact ⟨⟨by decide,by decide⟩,by simp⟩
   ·exact ⟨⟨by simp only;omega,by simp only;omega⟩,by simp only;omega⟩
open Go.RowKit Go.Lib
theorem list_cases (R:List UInt8):R = [] ∨ ∃ c t,R = c :: t:=by
 cases R with
 | nil => exact .inl rfl
 | cons c t => exact .inr ⟨c,t,rfl⟩
theorem takeD_none {l:List UInt8} (h:scan 0 (body l) = none):takeD l = (0,[]):=by unfold takeD;rw [h]
theorem takeD_neg {l r:List UInt8} {n:Nat} (h:scan 0 (body l) = some (n,r)) (hb:below l = true):takeD l = (-(n:Int),r):=by unfold takeD;rw [h];simp only;rw [if_pos hb]
theorem takeD_big {l r:List UInt8} {n:Nat} (h:scan 0 (body l) = some (n,r)) (hb:below l = false) (hn:n = 9223372036854775808):takeD l = (0,[]):=by unfold takeD;rw [h];simp only;rw [if_neg (by rw [hb];decide),if_pos hn]
theorem takeD_pos {l r:List UInt8} {n:Nat} (h:scan 0 (body l) = some (n,r)) (hb:below l = false) (hn:n ≠ 9223372036854775808):takeD l = ((n:Int),r):=by unfold takeD;rw [h];simp only;rw [if_neg (by rw [hb];decide),if_neg hn]
theorem rtake_any (l:List UInt8) (hl:l.length ≤ 1000000) (w:World) :
  Calls Tryz.prog 160 #[.string ⟨l.toArray⟩] w fun e w' => e = .returned (.tuple #[.int .i64 (takeD l).1,.string ⟨(takeD l).2.toArray⟩]) ∧ w' = w:=by
 have HTN:=Hh (takeD_none (l:=l));have HTM:=Hh (fun (n:Nat) (r:List UInt8) => takeD_neg (l:=l) (r:=r) (n:=n));have HTB:=Hh (fun (n:Nat) (r:List UInt8) => takeD_big (l:=l) (r:=r) (n:=n));have HTP:=Hh (fun (n:Nat) (r:List UInt8) => takeD_pos (l:=l) (r:=r) (n:=n));have hbd:body l = if below l = true then l.drop 2 else l:=rfl
 have hbl:below l = (l.take 2 == [194,175]):=rfl
 by_cases h2:2 ≤ l.length
 ·have hs2:=slice_to l 2 h2
  have hs3:=slice_from l 2 h2
  by_cases hb:below l = true
  ·have HBD:Hid (body l = l.drop 2):=Hh (by rw [hbd,if_pos hb])
   have HBL:=Hh hb;rw [hb] at hbl;have hbb:(l.take 2 == [194,175]) = true:=hbl.symm;have htk:l.take 2 = [194,175]:=by simpa using hbb
   have hs2':∀ W,(Instr.slice 9 (.string ⟨l.toArray⟩) none (some (.int .i64 2)) none).run Tryz.prog W = .ok (.string ⟨#[194,175]⟩) W:=fun W => by have h:=hs2 W;rw [htk] at h;exact h
   have hs3':∀ W,(Instr.slice 9 (.string ⟨l.toArray⟩) (some (.int .i64 2)) none none).run Tryz.prog W = .ok (.string ⟨(l.drop 2).toArray⟩) W:=fun W => hs3 W;have h2i:(2:Int) ≤ (l.length:Nat):=by omega
   clear hbd hbl hbb htk hs2 hs3 hb h2;generalize hdr:l.drop 2 = L2 at *;have hl2:L2.length ≤ 1000000:=by rw [← hdr];simp;omega
   go_enter Tryz.func160,Tryz.ntmps160
   go_wp2
   go_loopg [0,5] (L2).length (fun gk s0 s5 wr => ∃ (r:List UInt8) (n:Nat),gk = r.length ∧ s0 = .string ⟨r.toArray⟩ ∧ s5 = .int .u64 n ∧ n ≤ 9223372036854775808 ∧ r.length ≤ 1000000 ∧ Hid (scan 0 (body l) = scan n r) ∧ w = wr)
   case atStart => exact ⟨L2,0,rfl,rfl,rfl,by omega,hl2,Hh (by rw [HBD.out]),rfl⟩
   case round =>
    obtain ⟨R,n,rfl,rfl,rfl,hn,hRl,HS,rfl⟩:=hrel
    rcases list_cases R with hR | ⟨c,t,hR⟩
    ·subst hR
     have HSC:=Hh (HS.out.trans (scan_nil n));clear HS;obtain ⟨v1,hv1⟩:∃ v1,IntKind.i64.wrap (n:Int) = v1:=⟨_,rfl⟩;have hv2:IntKind.i64.wrap (-v1) = -(n:Int):=by rw [← hv1,IntKind.wrap_i64,IntKind.wrap_i64];omega
     have HV:=Hh (HTM.out n _ HSC.out HBL.out);go_wp2;go_ret2;exact ⟨by rw [HV.out];rfl,rfl⟩
    ·have hne:(R == []) = false:=by rw [hR];rfl
     have hix:∀ W,(Instr.index 9 (.string ⟨R.toArray⟩) (.int .i64 0)).run Tryz.prog W = .ok (.int .u8 (c.toNat:Nat)) W:=fun W => index_at (l:=R) (i:=0) (by rw [hR];rfl) W
     have hsl:∀ W,(Instr.slice 9 (.string ⟨R.toArray⟩) (some (.int .i64 1)) none none).run Tryz.prog W = .ok (.string ⟨t.toArray⟩) W:=fun W => by
      have h:=slice_from R 1 (by rw [hR];simp) W
      rw [show R.drop 1 = t by rw [hR];simp] at h
      exact h
     have hlt:t.length < R.length:=by simp [hR]
     have hc256:c.toNat < 256:=c.toNat_lt;have HF:Hid ((48 ≤ c.toNat ∧ c.toNat ≤ 57) → (9223372036854775808 - (c.toNat - 48)) / 10 < n → scan 0 (body l) = none):=Hh (fun h1 h2 => by rw [HS.out,hR];exact scan_far h1 h2)
     have HO:Hid ((48 ≤ c.toNat ∧ c.toNat ≤ 57) → ¬ (9223372036854775808 - (c.toNat - 48)) / 10 < n → scan 0 (body l) = scan (10 * n + (c.toNat - 48)) t):=Hh (fun h1 h2 => by rw [HS.out,hR];exact scan_on h1 h2)
     have HX:Hid (¬ (48 ≤ c.toNat ∧ c.toNat ≤ 57) → scan 0 (body l) = some (n,c :: t)):=Hh (fun h1 => by rw [HS.out,hR];exact scan_other h1)
     have HR:=Hh hR;clear hR HS;generalize c.toNat = C at *
     by_cases hd:48 ≤ C ∧ C ≤ 57
     ·obtain ⟨d1,d2⟩:=hd
      have HF':=Hh (HF.out ⟨d1,d2⟩);have HO':=Hh (HO.out ⟨d1,d2⟩);clear HF HO HX;obtain ⟨D,hD⟩:∃ D,C - 48 = D:=⟨_,rfl⟩;rw [hD] at HF' HO';have hi1:IntKind.u8.wrap ((C:Int) - 48) = (D:Nat):=by simp [IntKind.wrap,IntKind.bits,IntKind.signed];omega
      have hD9:D ≤ 9:=by omega
      have hi3:IntKind.u64.wrap (9223372036854775808 - (D:Int)) = 9223372036854775808 - (D:Int):=by rw [IntKind.wrap_u64];omega
      obtain ⟨Q,hQ⟩:∃ Q,(9223372036854775808 - D) / 10 = Q:=⟨_,rfl⟩;rw [hQ] at HF' HO';have hi4:(9223372036854775808 - (D:Int)) / 10 = (Q:Nat):=by omega
      have hi5:(9223372036854775808 - (D:Int)).tdiv 10 = (Q:Nat):=by rw [Int.tdiv_eq_ediv_of_nonneg (by omega)];exact hi4
      have hQb:Q ≤ 922337203685477580:=by omega
      by_cases hf:Q < n
      ·have HV:=Hh (HTN.out (HF'.out hf))
       clear hD hQ;go_wp2;go_ret2;exact ⟨by rw [HV.out];rfl,rfl⟩
      ·have HN:=Hh (HO'.out hf)
       have hm1:IntKind.u64.wrap (10 * (n:Int)) = 10 * (n:Int):=by rw [IntKind.wrap_u64];omega
       have hm2:IntKind.u64.wrap (10 * (n:Int) + (D:Int)) = ((10 * n + D:Nat):Int):=by rw [IntKind.wrap_u64];omega
       have hle:10 * n + D ≤ 9223372036854775808:=by omega
       clear hD hQ HF' HO';go_wp2;go_roundg t.length
       ·exact ⟨t,10 * n + D,rfl,rfl,by simp,hle,by omega,HN,rfl⟩
       ·exact hlt
     ·have HSC:=Hh (HX.out hd)
      rw [← HR.out] at HSC;clear HF HO HX
      by_cases h48:48 ≤ C
      ·have h57:¬ C ≤ 57:=by omega
       clear hd;obtain ⟨v1,hv1⟩:∃ v1,IntKind.i64.wrap (n:Int) = v1:=⟨_,rfl⟩;have hv2:IntKind.i64.wrap (-v1) = -(n:Int):=by rw [← hv1,IntKind.wrap_i64,IntKind.wrap_i64];omega
       have HV:=Hh (HTM.out n _ HSC.out HBL.out);go_wp2;go_ret2;exact ⟨by rw [HV.out];rfl,rfl⟩
      ·clear hd
       obtain ⟨v1,hv1⟩:∃ v1,IntKind.i64.wrap (n:Int) = v1:=⟨_,rfl⟩;have hv2:IntKind.i64.wrap (-v1) = -(n:Int):=by rw [← hv1,IntKind.wrap_i64,IntKind.wrap_i64];omega
       have HV:=Hh (HTM.out n _ HSC.out HBL.out);go_wp2;go_ret2;exact ⟨by rw [HV.out];rfl,rfl⟩
  ·have hb':below l = false:=by simpa using hb
   have HBD:Hid (body l = l):=Hh (by rw [hbd,if_neg hb])
   have HBL:=Hh hb';rw [hb'] at hbl;have hbb:(l.take 2 == [194,175]) = false:=hbl.symm;have hs2':∀ W,(Instr.slice 9 (.string ⟨l.toArray⟩) none (some (.int .i64 2)) none).run Tryz.prog W = .ok (.string ⟨(l.take 2).toArray⟩) W:=fun W => hs2 W;have h2i:(2:Int) ≤ (l.length:Nat):=by omega
   clear hbd hbl hs2 hs3 hb hb' h2
   go_enter Tryz.func160,Tryz.ntmps160
   go_wp2;clear hbb hs2' h2i
   go_loopg [0,5] (l).length (fun gk s0 s5 wr => ∃ (r:List UInt8) (n:Nat),gk = r.length ∧ s0 = .string ⟨r.toArray⟩ ∧ s5 = .int .u64 n ∧ n ≤ 9223372036854775808 ∧ r.length ≤ 1000000 ∧ Hid (scan 0 (body l) = scan n r) ∧ w = wr)
   case atStart => exact ⟨l,0,rfl,rfl,rfl,by omega,hl,Hh (by rw [HBD.out]),rfl⟩
   case round =>
    obtain ⟨R,n,rfl,rfl,rfl,hn,hRl,HS,rfl⟩:=hrel
    rcases list_cases R with hR | ⟨c,t,hR⟩
    ·subst hR
     have HSC:=Hh (HS.out.trans (scan_nil n));clear HS
     by_cases hbig:n = 9223372036854775808
     ·have HV:=Hh (HTB.out n _ HSC.out HBL.out hbig)
      subst hbig;go_wp2;go_ret2;exact ⟨by rw [HV.out];rfl,rfl⟩
     ·have HV:=Hh (HTP.out n _ HSC.out HBL.out hbig)
      have hb':((n:Int) == 9223372036854775808) = false:=by simpa using (show ¬ (n:Int) = 9223372036854775808 by omega)
      have hv1:IntKind.i64.wrap (n:Int) = (n:Int):=by rw [IntKind.wrap_i64];omega
      go_wp2;go_ret2;exact ⟨by rw [HV.out];rfl,rfl⟩
    ·have hne:(R == []) = false:=by rw [hR];rfl
     have hix:∀ W,(Instr.index 9 (.string ⟨R.toArray⟩) (.int .i64 0)).run Tryz.prog W = .ok (.int .u8 (c.toNat:Nat)) W:=fun W => index_at (l:=R) (i:=0) (by rw [hR];rfl) W
     have hsl:∀ W,(Instr.slice 9 (.string ⟨R.toArray⟩) (some (.int .i64 1)) none none).run Tryz.prog W = .ok (.string ⟨t.toArray⟩) W:=fun W => by
      have h:=slice_from R 1 (by rw [hR];simp) W
      rw [show R.drop 1 = t by rw [hR];simp] at h
      exact h
     have hlt:t.length < R.length:=by simp [hR]
     have hc256:c.toNat < 256:=c.toNat_lt;have HF:Hid ((48 ≤ c.toNat ∧ c.toNat ≤ 57) → (9223372036854775808 - (c.toNat - 48)) / 10 < n → scan 0 (body l) = none):=Hh (fun h1 h2 => by rw [HS.out,hR];exact scan_far h1 h2)
     have HO:Hid ((48 ≤ c.toNat ∧ c.toNat ≤ 57) → ¬ (9223372036854775808 - (c.toNat - 48)) / 10 < n → scan 0 (body l) = scan (10 * n + (c.toNat - 48)) t):=Hh (fun h1 h2 => by rw [HS.out,hR];exact scan_on h1 h2)
     have HX:Hid (¬ (48 ≤ c.toNat ∧ c.toNat ≤ 57) → scan 0 (body l) = some (n,c :: t)):=Hh (fun h1 => by rw [HS.out,hR];exact scan_other h1)
     have HR:=Hh hR;clear hR HS;generalize c.toNat = C at *
     by_cases hd:48 ≤ C ∧ C ≤ 57
     ·obtain ⟨d1,d2⟩:=hd
      have HF':=Hh (HF.out ⟨d1,d2⟩);have HO':=Hh (HO.out ⟨d1,d2⟩);clear HF HO HX;obtain ⟨D,hD⟩:∃ D,C - 48 = D:=⟨_,rfl⟩;rw [hD] at HF' HO';have hi1:IntKind.u8.wrap ((C:Int) - 48) = (D:Nat):=by simp [IntKind.wrap,IntKind.bits,IntKind.signed];omega
      have hD9:D ≤ 9:=by omega
      have hi3:IntKind.u64.wrap (9223372036854775808 - (D:Int)) = 9223372036854775808 - (D:Int):=by rw [IntKind.wrap_u64];omega
      obtain ⟨Q,hQ⟩:∃ Q,(9223372036854775808 - D) / 10 = Q:=⟨_,rfl⟩;rw [hQ] at HF' HO';have hi4:(9223372036854775808 - (D:Int)) / 10 = (Q:Nat):=by omega
      have hi5:(9223372036854775808 - (D:Int)).tdiv 10 = (Q:Nat):=by rw [Int.tdiv_eq_ediv_of_nonneg (by omega)];exact hi4
      have hQb:Q ≤ 922337203685477580:=by omega
      by_cases hf:Q < n
      ·have HV:=Hh (HTN.out (HF'.out hf))
       clear hD hQ;go_wp2;go_ret2;exact ⟨by rw [HV.out];rfl,rfl⟩
      ·have HN:=Hh (HO'.out hf)
       have hm1:IntKind.u64.wrap (10 * (n:Int)) = 10 * (n:Int):=by rw [IntKind.wrap_u64];omega
       have hm2:IntKind.u64.wrap (10 * (n:Int) + (D:Int)) = ((10 * n + D:Nat):Int):=by rw [IntKind.wrap_u64];omega
       have hle:10 * n + D ≤ 9223372036854775808:=by omega
       clear hD hQ HF' HO';go_wp2;go_roundg t.length
       ·exact ⟨t,10 * n + D,rfl,rfl,by simp,hle,by omega,HN,rfl⟩
       ·exact hlt
     ·have HSC:=Hh (HX.out hd)
      rw [← HR.out] at HSC;clear HF HO HX
      by_cases h48:48 ≤ C
      ·have h57:¬ C ≤ 57:=by omega
       clear hd
       by_cases hbig:n = 9223372036854775808
       ·have HV:=Hh (HTB.out n _ HSC.out HBL.out hbig)
        subst hbig;go_wp2;go_ret2;exact ⟨by rw [HV.out];rfl,rfl⟩
       ·have HV:=Hh (HTP.out n _ HSC.out HBL.out hbig)
        have hb':((n:Int) == 9223372036854775808) = false:=by simpa using (show ¬ (n:Int) = 9223372036854775808 by omega)
        have hv1:IntKind.i64.wrap (n:Int) = (n:Int):=by rw [IntKind.wrap_i64];omega
        go_wp2;go_ret2;exact ⟨by rw [HV.out];rfl,rfl⟩
      ·clear hd
       by_cases hbig:n = 9223372036854775808
       ·have HV:=Hh (HTB.out n _ HSC.out HBL.out hbig)
        subst hbig;go_wp2;go_ret2;exact ⟨by rw [HV.out];rfl,rfl⟩
       ·have HV:=Hh (HTP.out n _ HSC.out HBL.out hbig)
        have hb':((n:Int) == 9223372036854775808) = false:=by simpa using (show ¬ (n:Int) = 9223372036854775808 by omega)
        have hv1:IntKind.i64.wrap (n:Int) = (n:Int):=by rw [IntKind.wrap_i64];omega
        go_wp2;go_ret2;exact ⟨by rw [HV.out];rfl,rfl⟩
 ·have hb':below l = false:=by
   rw [hbl,beq_eq_false_iff_ne];intro e;have:=congrArg List.length e;simp at this;omega
  have HBD:Hid (body l = l):=Hh (by rw [hbd,if_neg (by rw [hb'];decide)])
  have HBL:=Hh hb';have h2i:¬ (2:Int) ≤ (l.length:Nat):=by omega
  clear hbd hbl hb' h2
  go_enter Tryz.func160,Tryz.ntmps160
  go_wp2;clear h2i
  go_loopg [0,5] (l).length (fun gk s0 s5 wr => ∃ (r:List UInt8) (n:Nat),gk = r.length ∧ s0 = .string ⟨r.toArray⟩ ∧ s5 = .int .u64 n ∧ n ≤ 9223372036854775808 ∧ r.length ≤ 1000000 ∧ Hid (scan 0 (body l) = scan n r) ∧ w = wr)
  case atStart => exact ⟨l,0,rfl,rfl,rfl,by omega,hl,Hh (by rw [HBD.out]),rfl⟩
  case round =>
   obtain ⟨R,n,rfl,rfl,rfl,hn,hRl,HS,rfl⟩:=hrel
   rcases list_cases R with hR | ⟨c,t,hR⟩
   ·subst hR
    have HSC:=Hh (HS.out.trans (scan_nil n));clear HS
    by_cases hbig:n = 9223372036854775808
    ·have HV:=Hh (HTB.out n _ HSC.out HBL.out hbig)
     subst hbig;go_wp2;go_ret2;exact ⟨by rw [HV.out];rfl,rfl⟩
    ·have HV:=Hh (HTP.out n _ HSC.out HBL.out hbig)
     have hb':((n:Int) == 9223372036854775808) = false:=by simpa using (show ¬ (n:Int) = 9223372036854775808 by omega)
     have hv1:IntKind.i64.wrap (n:Int) = (n:Int):=by rw [IntKind.wrap_i64];omega
     go_wp2;go_ret2;exact ⟨by rw [HV.out];rfl,rfl⟩
   ·have hne:(R == []) = false:=by rw [hR];rfl
    have hix:∀ W,(Instr.index 9 (.string ⟨R.toArray⟩) (.int .i64 0)).run Tryz.prog W = .ok (.int .u8 (c.toNat:Nat)) W:=fun W => index_at (l:=R) (i:=0) (by rw [hR];rfl) W
    have hsl:∀ W,(Instr.slice 9 (.string ⟨R.toArray⟩) (some (.int .i64 1)) none none).run Tryz.prog W = .ok (.string ⟨t.toArray⟩) W:=fun W => by
     have h:=slice_from R 1 (by rw [hR];simp) W
     rw [show R.drop 1 = t by rw [hR];simp] at h
     exact h
    have hlt:t.length < R.length:=by simp [hR]
    have hc256:c.toNat < 256:=c.toNat_lt;have HF:Hid ((48 ≤ c.toNat ∧ c.toNat ≤ 57) → (9223372036854775808 - (c.toNat - 48)) / 10 < n → scan 0 (body l) = none):=Hh (fun h1 h2 => by rw [HS.out,hR];exact scan_far h1 h2)
    have HO:Hid ((48 ≤ c.toNat ∧ c.toNat ≤ 57) → ¬ (9223372036854775808 - (c.toNat - 48)) / 10 < n → scan 0 (body l) = scan (10 * n + (c.toNat - 48)) t):=Hh (fun h1 h2 => by rw [HS.out,hR];exact scan_on h1 h2)
    have HX:Hid (¬ (48 ≤ c.toNat ∧ c.toNat ≤ 57) → scan 0 (body l) = some (n,c :: t)):=Hh (fun h1 => by rw [HS.out,hR];exact scan_other h1)
    have HR:=Hh hR;clear hR HS;generalize c.toNat = C at *
    by_cases hd:48 ≤ C ∧ C ≤ 57
    ·obtain ⟨d1,d2⟩:=hd
     have HF':=Hh (HF.out ⟨d1,d2⟩);have HO':=Hh (HO.out ⟨d1,d2⟩);clear HF HO HX;obtain ⟨D,hD⟩:∃ D,C - 48 = D:=⟨_,rfl⟩;rw [hD] at HF' HO';have hi1:IntKind.u8.wrap ((C:Int) - 48) = (D:Nat):=by simp [IntKind.wrap,IntKind.bits,IntKind.signed];omega
     have hD9:D ≤ 9:=by omega
     have hi3:IntKind.u64.wrap (9223372036854775808 - (D:Int)) = 9223372036854775808 - (D:Int):=by rw [IntKind.wrap_u64];omega
     obtain ⟨Q,hQ⟩:∃ Q,(9223372036854775808 - D) / 10 = Q:=⟨_,rfl⟩;rw [hQ] at HF' HO';have hi4:(9223372036854775808 - (D:Int)) / 10 = (Q:Nat):=by omega
     have hi5:(9223372036854775808 - (D:Int)).tdiv 10 = (Q:Nat):=by rw [Int.tdiv_eq_ediv_of_nonneg (by omega)];exact hi4
     have hQb:Q ≤ 922337203685477580:=by omega
     by_cases hf:Q < n
     ·have HV:=Hh (HTN.out (HF'.out hf))
      clear hD hQ;go_wp2;go_ret2;exact ⟨by rw [HV.out];rfl,rfl⟩
     ·have HN:=Hh (HO'.out hf)
      have hm1:IntKind.u64.wrap (10 * (n:Int)) = 10 * (n:Int):=by rw [IntKind.wrap_u64];omega
      have hm2:IntKind.u64.wrap (10 * (n:Int) + (D:Int)) = ((10 * n + D:Nat):Int):=by rw [IntKind.wrap_u64];omega
      have hle:10 * n + D ≤ 9223372036854775808:=by omega
      clear hD hQ HF' HO';go_wp2;go_roundg t.length
      ·exact ⟨t,10 * n + D,rfl,rfl,by simp,hle,by omega,HN,rfl⟩
      ·exact hlt
    ·have HSC:=Hh (HX.out hd)
     rw [← HR.out] at HSC;clear HF HO HX
     by_cases h48:48 ≤ C
     ·have h57:¬ C ≤ 57:=by omega
      clear hd
      by_cases hbig:n = 9223372036854775808
      ·have HV:=Hh (HTB.out n _ HSC.out HBL.out hbig)
       subst hbig;go_wp2;go_ret2;exact ⟨by rw [HV.out];rfl,rfl⟩
      ·have HV:=Hh (HTP.out n _ HSC.out HBL.out hbig)
       have hb':((n:Int) == 9223372036854775808) = false:=by simpa using (show ¬ (n:Int) = 9223372036854775808 by omega)
       have hv1:IntKind.i64.wrap (n:Int) = (n:Int):=by rw [IntKind.wrap_i64];omega
       go_wp2;go_ret2;exact ⟨by rw [HV.out];rfl,rfl⟩
     ·clear hd
      by_cases hbig:n = 9223372036854775808
      ·have HV:=Hh (HTB.out n _ HSC.out HBL.out hbig)
       subst hbig;go_wp2;go_ret2;exact ⟨by rw [HV.out];rfl,rfl⟩
      ·have HV:=Hh (HTP.out n _ HSC.out HBL.out hbig)
       have hb':((n:Int) == 9223372036854775808) = false:=by simpa using (show ¬ (n:Int) = 9223372036854775808 by omega)
       have hv1:IntKind.i64.wrap (n:Int) = (n:Int):=by rw [IntKind.wrap_i64];omega
       go_wp2;go_ret2;exact ⟨by rw [HV.out];rfl,rfl⟩
open Go.RowKit Go.Lib
def expOf (r:List UInt8):Int:=match r with
 | [] => 0
 | c :: t => if c = 69 then (takeD t).1 else 0
theorem exp_in (r:List UInt8):In (expOf r):=by
 unfold expOf;split
 ·exact ⟨by decide,by decide⟩
 ·split
  ·exact (take_in _).1
  ·exact ⟨by decide,by decide⟩
theorem parseD_long {l:List UInt8} (h:60 < l.length):parseD l = ((0,0),false):=by
 cases hp:(parseD l).2 with
 | true =>
  have h1:=parseD_true hp;have h2:=text_len (e:=(parseD l).1.2) (parseD_in l).1;rw [h1.2] at h2;omega
 | false =>
  have:=parseD_false hp;rw [← this,← hp]
theorem rparse_yes {l:List UInt8} (hne:l ≠ []) (h:text (takeD l).1 (expOf (takeD l).2) = l):parseD l = (((takeD l).1,expOf (takeD l).2),true):=by
 have hm:=(take_in l).1;generalize (takeD l).1 = m at *;generalize expOf (takeD l).2 = e at *;have hr:rightD m e = true:=by
  cases hr:rightD m e with
  | true => rfl
  | false => rw [text_wrong hr] at h;exact absurd h.symm hne
 rw [← h];exact parseD_text hm hr
theorem rparse_no {l:List UInt8} (h:l = [] ∨ text (takeD l).1 (expOf (takeD l).2) ≠ l):parseD l = ((0,0),false):=by
 cases hp:(parseD l).2 with
 | false =>
  have:=parseD_false hp;rw [← this,← hp]
 | true =>
  exfalso;obtain ⟨hr,ht⟩:=parseD_true hp;obtain ⟨hm,he⟩:=parseD_in l;generalize (parseD l).1.1 = m at *;generalize (parseD l).1.2 = e at *
  rcases h with h | h
  ·exact text_ne hr (ht.trans h)
  ·apply h
   by_cases h0:e = 0
   ·subst h0
    have h1:takeD l = (m,[]):=by
     rw [← ht,text_plain hr];have:=take_num (t:=[]) hm (.inl rfl)
     rwa [List.append_nil] at this
    rw [h1];exact ht
   ·have h1:takeD l = (m,69 :: num e):=by
     rw [← ht,text_exp hr h0];exact take_num hm (.inr ⟨_,rfl⟩)
    have h2:expOf (69 :: num e) = e:=by
     have:=take_num (t:=[]) he (.inl rfl);rw [List.append_nil] at this;rw [expOf,if_pos rfl,this]
    rw [h1];simp only;rw [h2];exact ht
theorem beq_nil {l:List UInt8} (h:l ≠ []):(l == []) = false:=by
 cases l with
 | nil => exact absurd rfl h
 | cons c r => rfl
theorem rparse_any (l : List UInt8) (hl : l.length ≤ 1000000) (w : World) :
    Calls Tryz.prog 135 #[.string ⟨l.toArray⟩] w fun x w' =>
      x = .returned (.tuple #[.agg #[.int .i64 (parseD l).1.1, .int .i64 (parseD l).1.2], .bool (parseD l).2]) ∧ Grow w w' := by
  by_cases h60 : 60 < l.length
  · have HP := Hh (parseD_long h60)
    have h60i : (60 : Int) < (l.length : Nat) := by omega
    go_enter Tryz.func135, Tryz.ntmps135
    go_wp2
    exact bodyPost_ret (v := .tuple #[.agg #[.int .i64 0, .int .i64 0], .bool false]) (by simp [results, Tryz.results135, go_sem]) rfl
      ⟨by rw [HP.out], grow_new _ _⟩
  · have h60i : ¬ (60 : Int) < (l.length : Nat) := by omega
    have HK := Hh (fun W => rtake_any l hl W)
    have HYES := Hh (rparse_yes (l := l))
    have HNO := Hh (rparse_no (l := l))
    obtain ⟨hmi, hRl⟩ := take_in l
    have HM := Hh hmi
    obtain ⟨⟨m, R⟩, hmR⟩ : ∃ r, takeD l = r := ⟨_, rfl⟩
    rw [hmR] at HK HYES HNO HM hRl
    simp only at HK HYES HNO HM hRl
    have HE := Hh (exp_in R)
    have HEX : Hid (expOf R = expOf R) ∨ True := .inr trivial
    clear hmR hmi HEX
    rcases list_cases R with hR | ⟨c, r', hR⟩
    · have he0 : expOf R = 0 := by rw [hR]; rfl
      rw [he0] at HE HYES HNO
      obtain ⟨e, hez⟩ : ∃ e : Int, e = 0 := ⟨_, rfl⟩
      rw [← hez] at HE HYES HNO
      have HT := Hh (fun W => rtext_any m e W HM.out HE.out)
      obtain ⟨t, ht⟩ : ∃ t, text m e = t := ⟨_, rfl⟩
      rw [ht] at HT HYES HNO
      subst hez
      clear ht he0 HE HM
      subst hR
      go_enter Tryz.func135, Tryz.ntmps135
      go_wp2_with fail
      refine (HK.out _).mono ?_
      rintro x w1 ⟨rfl, rfl⟩
      clear HK
      by_cases hnil : l = []
      · have HP := Hh (HNO.out (.inl hnil))
        subst hnil
        go_wp2
        exact bodyPost_ret (v := .tuple #[.agg #[.int .i64 0, .int .i64 0], .bool false]) (by simp [results, Tryz.results135, go_sem]) rfl
          ⟨by rw [HP.out], grow_new2 _ _ _⟩
      · have hnb := beq_nil hnil
        go_wp2_with fail
        refine (HT.out _).mono ?_
        rintro x w4 ⟨rfl, hg⟩
        have hb := ((boxed_new w (.int .i64 0) (.int .i64 0) 41).grow (grow_new _ _)).grow hg
        have hd := (boxed_new (w.alloc (.cells #[.int .i64 0, .int .i64 0] 41)) (.int .i64 m) (.int .i64 0) 41).grow hg
        have hsz : (w.alloc (.cells #[.int .i64 0, .int .i64 0] 41)).heap.size = w.heap.size + 1 := by simp
        rw [hsz] at hd
        have c40 := hb.fst; have c41 := hb.snd; have f40 := hb.froz 0; have f41 := hb.froz 1
        have d40 := hd.fst; have d41 := hd.snd
        have HB4 := Hh hb
        have HG4 := Hh ((grow_new2 w _ _).trans hg)
        clear hg hb hd hsz
        by_cases hq : t = l
        · have HP := Hh (HYES.out hnil hq)
          subst hq
          clear hnil
          go_wp2
          have hr := (HB4.out.put0 (.int .i64 m)).put1 (.int .i64 0)
          exact bodyPost_ret (v := .tuple #[.agg #[.int .i64 m, .int .i64 0], .bool true]) (by simp [results, Tryz.results135, go_sem, hr.fst, hr.snd]) rfl
            ⟨by rw [HP.out], (HG4.out.put (Nat.le_refl _) 0 _).put (Nat.le_refl _) 1 _⟩
        · have HP := Hh (HNO.out (.inr hq))
          have hqb : (t == l) = false := by simpa using hq
          clear hnil hq
          go_wp2
          have hr := (HB4.out.put0 (.int .i64 0)).put1 (.int .i64 0)
          exact bodyPost_ret (v := .tuple #[.agg #[.int .i64 0, .int .i64 0], .bool false]) (by simp [results, Tryz.results135, go_sem, hr.fst, hr.snd]) rfl
            ⟨by rw [HP.out], (HG4.out.put (Nat.le_refl _) 0 _).put (Nat.le_refl _) 1 _⟩
    · have hnR : (R == []) = false := by rw [hR]; rfl
      have hix : ∀ W, (Instr.index 9 (.string ⟨R.toArray⟩) (.int .i64 0)).run Tryz.prog W = .ok (.int .u8 (c.toNat : Nat)) W := fun W => index_at (l := R) (i := 0) (by rw [hR]; rfl) W
      have hsl : ∀ W, (Instr.slice 9 (.string ⟨R.toArray⟩) (some (.int .i64 1)) none none).run Tryz.prog W = .ok (.string ⟨r'.toArray⟩) W := fun W => by
        have h := slice_from R 1 (by rw [hR]; simp) W
        rw [show R.drop 1 = r' by rw [hR]; simp] at h
        exact h
      by_cases hc : c = 69
      · have he0 : expOf R = (takeD r').1 := by rw [hR, expOf, if_pos hc]
        have hrl : r'.length ≤ 1000000 := by rw [hR] at hRl; simp only [List.length_cons] at hRl; omega
        have HK2 := Hh (fun W => rtake_any r' hrl W)
        rw [he0] at HE HYES HNO
        generalize (takeD r').2 = R2 at *
        generalize (takeD r').1 = e at *
        subst hc
        have HT := Hh (fun W => rtext_any m e W HM.out HE.out)
        obtain ⟨t, ht⟩ : ∃ t, text m e = t := ⟨_, rfl⟩
        rw [ht] at HT HYES HNO
        clear ht he0 HE HM hR hrl hRl
        go_enter Tryz.func135, Tryz.ntmps135
        go_wp2_with fail
        refine (HK.out _).mono ?_
        rintro x w1 ⟨rfl, rfl⟩
        clear HK
        go_wp2_with fail
        refine (HK2.out _).mono ?_
        rintro x w2 ⟨rfl, rfl⟩
        clear HK2 hix hsl hnR
        by_cases hnil : l = []
        · have HP := Hh (HNO.out (.inl hnil))
          subst hnil
          go_wp2
          exact bodyPost_ret (v := .tuple #[.agg #[.int .i64 0, .int .i64 0], .bool false]) (by simp [results, Tryz.results135, go_sem]) rfl
            ⟨by rw [HP.out], grow_new2 _ _ _⟩
        · have hnb := beq_nil hnil
          go_wp2_with fail
          refine (HT.out _).mono ?_
          rintro x w4 ⟨rfl, hg⟩
          have hb := ((boxed_new w (.int .i64 0) (.int .i64 0) 41).grow (grow_new _ _)).grow hg
          have hd := (boxed_new (w.alloc (.cells #[.int .i64 0, .int .i64 0] 41)) (.int .i64 m) (.int .i64 e) 41).grow hg
          have hsz : (w.alloc (.cells #[.int .i64 0, .int .i64 0] 41)).heap.size = w.heap.size + 1 := by simp
          rw [hsz] at hd
          have c40 := hb.fst; have c41 := hb.snd; have f40 := hb.froz 0; have f41 := hb.froz 1
          have d40 := hd.fst; have d41 := hd.snd
          have HB4 := Hh hb
          have HG4 := Hh ((grow_new2 w _ _).trans hg)
          clear hg hb hd hsz
          by_cases hq : t = l
          · have HP := Hh (HYES.out hnil hq)
            subst hq
            clear hnil
            go_wp2
            have hr := (HB4.out.put0 (.int .i64 m)).put1 (.int .i64 e)
            exact bodyPost_ret (v := .tuple #[.agg #[.int .i64 m, .int .i64 e], .bool true]) (by simp [results, Tryz.results135, go_sem, hr.fst, hr.snd]) rfl
              ⟨by rw [HP.out], (HG4.out.put (Nat.le_refl _) 0 _).put (Nat.le_refl _) 1 _⟩
          · have HP := Hh (HNO.out (.inr hq))
            have hqb : (t == l) = false := by simpa using hq
            clear hnil hq
            go_wp2
            have hr := (HB4.out.put0 (.int .i64 0)).put1 (.int .i64 0)
            exact bodyPost_ret (v := .tuple #[.agg #[.int .i64 0, .int .i64 0], .bool false]) (by simp [results, Tryz.results135, go_sem, hr.fst, hr.snd]) rfl
              ⟨by rw [HP.out], (HG4.out.put (Nat.le_refl _) 0 _).put (Nat.le_refl _) 1 _⟩
      · have he0 : expOf R = 0 := by rw [hR, expOf, if_neg hc]
        rw [he0] at HE HYES HNO
        have hcn : ((c.toNat : Int) == 69) = false := by
          rw [beq_eq_false_iff_ne]
          intro h
          exact hc (UInt8.toNat_inj.1 (by have : c.toNat = 69 := by omega
                                          rw [this]; rfl))
        obtain ⟨e, hez⟩ : ∃ e : Int, e = 0 := ⟨_, rfl⟩
        rw [← hez] at HE HYES HNO
        have HT := Hh (fun W => rtext_any m e W HM.out HE.out)
        obtain ⟨t, ht⟩ : ∃ t, text m e = t := ⟨_, rfl⟩
        rw [ht] at HT HYES HNO
        subst hez
        clear ht he0 HE HM hR hRl hc
        go_enter Tryz.func135, Tryz.ntmps135
        go_wp2_with fail
        refine (HK.out _).mono ?_
        rintro x w1 ⟨rfl, rfl⟩
        clear HK
        by_cases hnil : l = []
        · have HP := Hh (HNO.out (.inl hnil))
          subst hnil
          go_wp2
          exact bodyPost_ret (v := .tuple #[.agg #[.int .i64 0, .int .i64 0], .bool false]) (by simp [results, Tryz.results135, go_sem]) rfl
            ⟨by rw [HP.out], grow_new2 _ _ _⟩
        · have hnb := beq_nil hnil
          go_wp2_with fail
          refine (HT.out _).mono ?_
          rintro x w4 ⟨rfl, hg⟩
          have hb := ((boxed_new w (.int .i64 0) (.int .i64 0) 41).grow (grow_new _ _)).grow hg
          have hd := (boxed_new (w.alloc (.cells #[.int .i64 0, .int .i64 0] 41)) (.int .i64 m) (.int .i64 0) 41).grow hg
          have hsz : (w.alloc (.cells #[.int .i64 0, .int .i64 0] 41)).heap.size = w.heap.size + 1 := by simp
          rw [hsz] at hd
          have c40 := hb.fst; have c41 := hb.snd; have f40 := hb.froz 0; have f41 := hb.froz 1
          have d40 := hd.fst; have d41 := hd.snd
          have HB4 := Hh hb
          have HG4 := Hh ((grow_new2 w _ _).trans hg)
          clear hg hb hd hsz
          by_cases hq : t = l
          · have HP := Hh (HYES.out hnil hq)
            subst hq
            clear hnil
            go_wp2
            have hr := (HB4.out.put0 (.int .i64 m)).put1 (.int .i64 0)
            exact bodyPost_ret (v := .tuple #[.agg #[.int .i64 m, .int .i64 0], .bool true]) (by simp [results, Tryz.results135, go_sem, hr.fst, hr.snd]) rfl
              ⟨by rw [HP.out], (HG4.out.put (Nat.le_refl _) 0 _).put (Nat.le_refl _) 1 _⟩
          · have HP := Hh (HNO.out (.inr hq))
            have hqb : (t == l) = false := by simpa using hq
            clear hnil hq
            go_wp2
            have hr := (HB4.out.put0 (.int .i64 0)).put1 (.int .i64 0)
            exact bodyPost_ret (v := .tuple #[.agg #[.int .i64 0, .int .i64 0], .bool false]) (by simp [results, Tryz.results135, go_sem, hr.fst, hr.snd]) rfl
              ⟨by rw [HP.out], (HG4.out.put (Nat.le_refl _) 0 _).put (Nat.le_refl _) 1 _⟩
end Go.Proofs.YteoogioanjkacaaGreatDoor.Num
