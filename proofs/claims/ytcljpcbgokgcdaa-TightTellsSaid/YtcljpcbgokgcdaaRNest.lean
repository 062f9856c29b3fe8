/-
  What the document's own form comes to at an array that holds kids: the tight form, in new memory.
-/
import Derived.Test.YtcljpcbgokgcdaaRNumbers
import Derived.Test.YtcljpcbgokgcdaaTightE
import Derived.Test.YtcljpcbgokgcdaaRMore
import Derived.Test.YtcljpcbgokgcdaaRKids
import Derived.Test.YtcljpcbgokgcdaaLay
namespace Go.Proofs.Ytcljpcbgokgcdaa
open Go.RowKit Go.Lib
set_option linter.unusedSimpArgs false
set_option linter.unusedVariables false

theorem sgK_app (a b : List (List Nd)) : sgK (a ++ b) = sgK a ++ sgK b := by
  induction a with
  | nil => rfl
  | cons k a ih => simp only [List.cons_append, sgK, ih, List.append_assoc]
theorem nbK_app (a b : List (List Nd)) : nbK (a ++ b) = nbK a ++ nbK b := by
  induction a with
  | nil => rfl
  | cons k a ih => simp only [List.cons_append, nbK, ih, List.append_assoc]
theorem sgK_step {ks : List (List Nd)} {k : Nat} (h : k < ks.length) : sgK (ks.take (k + 1)) = sgK (ks.take k) ++ sgs ((ks.getD k []).getD 0 nd0) := by
  rw [take_kid h, sgK_app]
  simp [sgK]
theorem nbK_step {ks : List (List Nd)} {k : Nat} (h : k < ks.length) : nbK (ks.take (k + 1)) = nbK (ks.take k) ++ nbs ((ks.getD k []).getD 0 nd0) := by
  rw [take_kid h, nbK_app]
  simp [nbK]
theorem alr2_take {fs : List (List Nd)} (h : Alr2 fs) (k : Nat) : Alr2 (fs.take k) := fun f hf => h f (List.mem_of_mem_take hf)
theorem alr2_at {fs : List (List Nd)} (h : Alr2 fs) {k : Nat} (hk : k < fs.length) : rightA (fs.getD k []) = true ∧ Fine (fs.getD k []) :=
  h _ (by rw [show fs.getD k [] = fs[k] by simp [List.getD, hk]]; exact List.getElem_mem hk)
theorem map_at {ks : List (List Nd)} {k : Nat} (h : k < ks.length) : (ks.map formA).getD k [] = formA (ks.getD k []) := by
  simp [List.getD, h]
theorem kid_mem {ks : List (List Nd)} {k : Nat} (h : k < ks.length) : ks.getD k [] ∈ ks := by
  rw [show ks.getD k [] = ks[k] by simp [List.getD, h]]; exact List.getElem_mem h
theorem node_litT {z : Nat} {W : World} {B1 B2 B3 : Option Addr} {e1 e2 e3 q1 q2 q3 : Nat} {q : Nd} (h1 : q.shp.length = q1) (h2 : q.ints.length = q2) (h3 : q.decs.length = q3) (hz : z ≤ W.heap.size) (h : NdT (fun b => z ≤ b ∧ b < W.heap.size) W B1 B2 B3 q) :
    NodesT (fun b => z ≤ b ∧ b < (W.alloc (.cells #[.int .i64 q.kind, .slice B1 q1 e1, .slice B2 q2 e2, .slice B3 q3 e3] 30)).heap.size) (W.alloc (.cells #[.int .i64 q.kind, .slice B1 q1 e1, .slice B2 q2 e2, .slice B3 q3 e3] 30)) (some ⟨W.heap.size, 0, none⟩) [q] := fun _ => by
  subst h1 h2 h3
  have hb := boxN_new W q.kind B1 q.shp.length e1 B2 q.ints.length e2 B3 q.decs.length e3
  have hg := grow_new W (.cells #[.int .i64 q.kind, .slice B1 q.shp.length e1, .slice B2 q.ints.length e2, .slice B3 q.decs.length e3] 30)
  refine ⟨W.heap.size, 0, rfl, ⟨hz, hb.lt⟩, fun i hi => ?_⟩
  obtain rfl : i = 0 := by simpa using hi
  have hh := h.keep (w' := W.alloc (.cells #[.int .i64 q.kind, .slice B1 q.shp.length e1, .slice B2 q.ints.length e2, .slice B3 q.decs.length e3] 30)) (T' := fun b => z ≤ b ∧ b < (W.alloc (.cells #[.int .i64 q.kind, .slice B1 q.shp.length e1, .slice B2 q.ints.length e2, .slice B3 q.decs.length e3] 30)).heap.size) (fun b hb => ⟨⟨hb.1, Nat.lt_of_lt_of_le hb.2 hg.size⟩, hg.block b hb.2⟩)
  exact ⟨B1, e1, B2, e2, B3, e3, hb.at0, hb.at1, hb.at2, hb.at3, hh.1, hh.2.1, hh.2.2⟩

theorem sgs_yes {h : Nd} (h1 : h.shp.length = 0) (h2 : h.kind = 3) : sgs h = h.ints := if_pos ⟨List.eq_nil_of_length_eq_zero h1, h2⟩
theorem sgs_no {h : Nd} (hn : ¬ (h.shp.length = 0 ∧ h.kind = 3)) : sgs h = [] := if_neg fun e => hn ⟨by rw [e.1]; rfl, e.2⟩
theorem nbs_yes {h : Nd} (h1 : h.shp.length = 0) (h2 : h.kind ≠ 3) (h3 : h.kind ≠ 5) : nbs h = valsR h := if_pos ⟨List.eq_nil_of_length_eq_zero h1, h2, h3⟩
theorem nbs_no {h : Nd} (hn : ¬ (h.shp.length = 0 ∧ h.kind ≠ 3 ∧ h.kind ≠ 5)) : nbs h = [] := if_neg fun e => hn ⟨by rw [e.1]; rfl, e.2⟩
theorem Trio.lt {B : Nat} {v7 v8 v9 : Value} {ns : List Nd} {xs : List Int} {ds : List (Int × Int)} {w : World} (h : Trio B v7 v8 v9 ns xs ds w) : (∀ q, v7.ownBlock = some q → q < w.heap.size) ∧ (∀ q, v8.ownBlock = some q → q < w.heap.size) ∧ ∀ q, v9.ownBlock = some q → q < w.heap.size :=
  ⟨fun q hq => (h.1.lt hq).2, fun q hq => (World.ownsRow.lt h.2.1 q hq).2, fun q hq => (World.ownsRow.lt h.2.2.1 q hq).2⟩
theorem Trio.start {B : Nat} (W : World) (sh : List Int) (As : Option Addr) (l1 cA : Nat) (hl : sh.length = l1) (hB : B ≤ W.heap.size) (h : NewN B As sh W) :
    Trio B (.slice (some ⟨W.heap.size, 0, none⟩) 1 1) (.slice none 0 0) (.slice none 0 0) [nest5 sh] [] [] (W.alloc (.cells #[.int .i64 5, .slice As l1 cA, .slice none 0 0, .slice none 0 0] 30)) := by
  subst hl
  have hg := grow_new W (.cells #[.int .i64 5, .slice As sh.length cA, .slice none 0 0, .slice none 0 0] 30)
  refine ⟨⟨Nat.le_trans hB hg.size, [.int .i64 5, .slice As sh.length cA, .slice none 0 0, .slice none 0 0], ⟨rfl, .inr ⟨W.heap.size, 1, #[.int .i64 5, .slice As sh.length cA, .slice none 0 0, .slice none 0 0], rfl, hB, heap_alloc_new W _, Nat.le_refl _, by decide, rfl, rfl⟩⟩, fun i hi => ?_⟩, ownI_nil _ _, ownD_nil _ _, fun q _ => ⟨(fun e => by cases e), (fun e => by cases e)⟩, fun q e => by cases e⟩
  obtain rfl : i = 0 := by simpa using hi
  refine ⟨As, cA, none, 0, none, 0, rfl, rfl, rfl, rfl, h.keep fun b hb => ⟨⟨hb.1, fun e => ?_, Nat.lt_of_lt_of_le hb.2 hg.size, fun e => by rcases e with e | e <;> cases e⟩, hg.block b hb.2⟩, NumsT.nil_, DecsT.nil_⟩
  have e' : W.heap.size = b := Option.some.inj e
  omega

set_option maxRecDepth 10000 in
set_option maxHeartbeats 12800000 in
theorem rform_nest (d : Nat) (ih : ∀ (A : Option Addr) (n c : Nat) (ns : List Nd) (w : World), ns.length = n → n ≤ c → Fine ns → rightA ns = true → (ws ns).d ≤ d → Nodes w w.heap.size A ns →
    Calls Try.prog 30 #[.slice A n c] w (RCopyP (formA ns) w)) (A : Option Addr) (n c : Nat) (ns : List Nd) (w : World) (hn : ns.length = n) (hnc : n ≤ c) (hf : Fine ns) (hr : rightA ns = true) (hd : (ws ns).d ≤ d + 1) (hns : Nodes w w.heap.size A ns)
    (h5 : (ns.getD 0 nd0).kind = 5) (hk0 : kidsA ns ≠ []) : Calls Try.prog 30 #[.slice A n c] w (RCopyP (formA ns) w) := by
  have IH := Lib.hid ih
  clear ih
  have hn6 : n ≤ 1100000 := by rw [← hn]; exact hf.1
  have hnp : 1 ≤ n := by rw [← hn]; exact List.length_pos_iff.2 (right_ne hr)
  have HN := Lib.hid hn
  have HF := Lib.hid hf
  have HD := Lib.hid hd
  have HNS := Lib.hid hns
  obtain ⟨e1, e2, e3, e4, e5, e6, e7, e8⟩ := form_nest hr hf h5
  have HKR := Lib.hid e1
  have HALR := Lib.hid e2
  have HFL := Lib.hid e3
  have HFM := Lib.hid e4
  have HXN := Lib.hid e5
  have HKC := Lib.hid e6
  have HSB := Lib.hid e7
  have HDOC := Lib.hid (e8 hk0)
  clear e1 e2 e3 e4 e5 e6 e7 e8
  obtain ⟨b, off, rfl, hb, hat⟩ := hns (by omega)
  obtain ⟨A1, c1, A2, c2, A3, c3, p0, p1, p2, p3, hnd⟩ := hat 0 (by omega)
  rw [Nat.zero_mul, Nat.add_zero] at p0 p1 p2 p3
  have hxm : ns.getD 0 nd0 ∈ ns := by
    rw [show ns.getD 0 nd0 = ns[0]'(by omega) by simp [List.getD, show 0 < ns.length by omega]]
    exact List.getElem_mem _
  have HFX := Lib.hid (hf.2.1 _ hxm)
  have HND := Lib.hid hnd
  clear hn hf hr hd hns hat hnd hb hxm
  generalize ns.getD 0 nd0 = x at *
  have hbx := boxN_new w x.kind A1 x.shp.length c1 A2 x.ints.length c2 A3 x.decs.length c3
  have hg1 := grow_new w (.cells #[.int .i64 x.kind, .slice A1 x.shp.length c1, .slice A2 x.ints.length c2, .slice A3 x.decs.length c3] 30)
  have HBX := Lib.hid hbx
  have HG1 := Lib.hid hg1
  have HKD := Lib.hid (rkids_any (some ⟨b, off, none⟩) n c ns _ HN.out hn6 hnc HF.out.2.1 (HNS.out.grow hg1))
  clear hbx hg1
  have hnz : ¬ (kidsA ns).length = 0 := fun h => hk0 (List.eq_nil_of_length_eq_zero h)
  generalize kidsA ns = ks at *
  obtain ⟨nk, hnk⟩ : ∃ nk, ks.length = nk := ⟨_, rfl⟩
  have HNK := Lib.hid hnk
  have hnki : (((nk : Nat) : Int) == 0) = false := by simp; omega
  have hnkz : decide (nk = 0) = false := decide_eq_false (by omega)
  have hnk0 : 1 ≤ nk := by omega
  have hnkm : nk ≤ 1048576 := by
    rw [← hnk, HKC.out, cnt_yes HSB.out]; exact (right_iff.1 HSB.out).2.2
  obtain ⟨l1, hl1⟩ : ∃ l1, x.shp.length = l1 := ⟨_, rfl⟩
  have HL1 := Lib.hid hl1
  have hs1 : l1 ≤ 1100000 := by rw [← hl1]; exact HFX.out.2.1
  obtain ⟨fs, hfs⟩ : ∃ fs, ks.map formA = fs := ⟨_, rfl⟩
  have HFS := Lib.hid hfs
  have HFN : Hid (fs.length = nk) := Lib.hid (by rw [← hfs, List.length_map, hnk])
  rw [hfs] at HALR HFM HDOC
  have HSZ : Hid ((flatK fs).length ≤ 1100000) := Lib.hid (by have h1 := HFL.out; have h2 := HFM.out; have h3 := HN.out; omega)
  clear hfs HFM HFL HF
  rw [h5] at p0 HBX HG1 HKD
  rw [hl1] at p1 HBX HG1 HKD
  generalize x.ints.length = l2 at *
  generalize x.decs.length = l3 at *
  clear hl1 hnz hk0
  go_enter Try.func30, Try.ntmps30
  go_wp2_with fail
  refine (HKD.out).mono ?_
  rintro e w2 ⟨AK, cK, rfl, -, -, hk2, hg2⟩
  rw [hnk]
  have HB2 := Lib.hid (HBX.out.grow hg2)
  have HG2 := Lib.hid (HG1.out.trans hg2)
  have HS2 := Lib.hid ((HND.out.grow HG2.out).1)
  have HK2 := Lib.hid hk2
  obtain ⟨nb, hnb⟩ : ∃ nb, w.heap.size = nb := ⟨_, rfl⟩
  have HNB := Lib.hid hnb
  have d0 := HB2.out.at0
  have d1 := HB2.out.at1
  rw [hnb] at HB2 d0 d1
  clear hg2 hk2 hnk HKD HBX HG1 p0 p1 p2 p3
  obtain ⟨z, hz⟩ : ∃ z, w2.heap.size = z := ⟨_, rfl⟩
  have HZ := Lib.hid hz
  clear hz
  go_upto_region 8 with fail
  clear hnb
  have hgl := grow_new w2 (.cells #[] 3)
  have HE2 := Lib.hid (ownI_lit00 (B := z) w2 (by rw [HZ.out]; exact Nat.le_refl _))
  have HS3 := Lib.hid (HS2.out.grow hgl)
  have HZ3 : Hid (z ≤ (w2.alloc (.cells #[] 3)).heap.size) := Lib.hid (by have := hgl.size; rw [HZ.out] at this; exact this)
  have d1' := (HB2.out.grow hgl).at1
  have HGL := Lib.hid hgl
  clear hgl
  go_upto_region 9 with (at_builtin; refine wpList_more_ints rfl _ _ rfl z (.slice (some ⟨w2.heap.size, 0, none⟩) 0 0) [] A1 l1 c1 x.shp rfl HE2.out rfl HL1.out HS3.out (by simp; omega) HZ3.out ?_; intro v3 w3 HO3 HB3 HA3; obtain ⟨As, cA, e3, hcA, hNA⟩ := HO3.out.new; rw [List.nil_append, HL1.out] at e3; subst e3)
  have hzs3 := Nat.le_trans HZ3.out HB3.out.size
  have hrows := Trio.start (B := z) w3 x.shp As l1 cA HL1.out hzs3 hNA
  have HGW4 : Hid (Grow w2 (w3.alloc (.cells #[.int .i64 5, .slice As l1 cA, .slice none 0 0, .slice none 0 0] 30))) := Lib.hid (by
    refine Grow.trans ?_ (grow_new w3 _)
    unfold Grow
    have h1 := HGL.out
    unfold Grow at h1
    rw [HZ.out] at h1 ⊢
    exact Below.trans h1 HB3.out)
  obtain ⟨v7, hv7⟩ : ∃ v7, v7 = Value.slice (some ⟨w3.heap.size, 0, none⟩) 1 1 := ⟨_, rfl⟩
  obtain ⟨w4, hw4⟩ : ∃ w4, w4 = w3.alloc (.cells #[.int .i64 5, .slice As l1 cA, .slice none 0 0, .slice none 0 0] 30) := ⟨_, rfl⟩
  rw [← hw4, ← hv7] at hrows
  rw [← hw4] at HGW4 ⊢
  rw [← hv7]
  have HRW := Lib.hid hrows
  clear hrows hw4 hv7 hzs3 hcA hNA HO3 HB3 HA3 HE2 HS3 HZ3 d1' HGL d0 d1
  go_wp2
  go_loopg [7, 8, 9, 10] nk (fun g s7 s8 s9 s10 wr => ∃ (k : Nat) (v7 v8 v9 : Value), k ≤ nk ∧ g = nk - k ∧ s10 = .int .i64 k ∧ v7 = s7 ∧ v8 = s8 ∧ v9 = s9 ∧ Hid (Trio z v7 v8 v9 (nest5 x.shp :: flatK (fs.take k)) (sgK (fs.take k)) (nbK (fs.take k)) wr) ∧ Hid (Grow w2 wr))
  case atStart => exact ⟨0, v7, _, _, Nat.zero_le _, rfl, rfl, rfl, rfl, rfl, HRW, HGW4⟩
  case round =>
    clear HRW HGW4
    obtain ⟨k, v7, v8, v9, hk, rfl, rfl, rfl, rfl, rfl, HRW, HGR⟩ := hrel
    by_cases hlt : k < nk
    · have hlti : ((k : Nat) : Int) < ((nk : Nat) : Int) := by omega
      have hkl : k < ks.length := by rw [HNK.out]; exact hlt
      have hkf : k < fs.length := by rw [HFN.out]; exact hlt
      obtain ⟨b', off', rfl, hb', hcl⟩ := (HK2.out.grow HGR.out) (by omega)
      obtain ⟨A', c', hc, hkn, hkd⟩ := hcl k hkl
      have HRT := Lib.hid (alr2_at HALR.out hkf)
      have HEQ : Hid (fs.getD k [] = formA (ks.getD k [])) := Lib.hid (by rw [← HFS.out]; exact map_at hkl)
      obtain ⟨hk1, hk2, hk3⟩ := HKR.out _ (kid_mem hkl)
      have HC := Lib.hid (IH.out A' (ks.getD k []).length c' (ks.getD k []) wr rfl hkn hk2 hk1 (by have := HD.out; omega) hkd)
      rw [← HEQ.out] at HC
      have HST7 := Lib.hid (flatK_step hkf)
      have HST8 := Lib.hid (sgK_step hkf)
      have HST9 := Lib.hid (nbK_step hkf)
      have HSA : Hid ((flatK (fs.take k)).length + (fs.getD k []).length ≤ 1100000) := Lib.hid (by
        have h1 := flatK_le fs (k + 1)
        rw [HST7.out, List.length_append] at h1
        exact Nat.le_trans h1 HSZ.out)
      have hsl := (sg_cases (alr2_take HALR.out k)).1
      have hnl := (nb_cases (alr2_take HALR.out k)).1
      rw [List.length_take_of_le (by omega)] at hsl hnl
      have HSL := Lib.hid hsl
      have HNL := Lib.hid hnl
      clear hcl hb' hkn hkd hk1 hk2 hk3 hkl hkf HEQ hsl hnl
      generalize flatK (fs.take k) = R7 at *
      generalize sgK (fs.take k) = R8 at *
      generalize nbK (fs.take k) = R9 at *
      generalize (ks.getD k []).length = lk at *
      obtain ⟨h0, t, hft, hok, hfit, hin, -⟩ := right_head HRT.out.1 HRT.out.2
      have hf0 : (fs.getD k []).getD 0 nd0 = h0 := by rw [hft]; rfl
      rw [hf0] at HST8 HST9
      have HFP : Hid (0 < (fs.getD k []).length) := Lib.hid (by rw [hft]; simp)
      have HF0 := Lib.hid hf0
      have HFIT := Lib.hid hfit
      have HIN := Lib.hid hin
      clear hf0 hft hok hfit hin HRT
      generalize fs.getD k [] = F at *
      obtain ⟨m, hm⟩ : ∃ m, F.length = m := ⟨_, rfl⟩
      have HM := Lib.hid hm
      rw [hm] at HSA HFP
      clear hm
      go_wp2_with fail
      refine (HC.out).mono ?_
      rintro e w5 ⟨A5, c5, rfl, -, hN5, hg5⟩
      rw [HM.out]
      have HR5 := Lib.hid (HRW.out.grow hg5)
      have HL0 := Lib.hid HRW.out.lt
      have HN5 := Lib.hid hN5
      have HG5 := Lib.hid (HGR.out.trans hg5)
      have HZR := Lib.hid HRW.out.size
      have HGZ := Lib.hid hg5.size
      clear hg5 hN5 HC hc HRW HGR
      go_upto_region 16 with (at_builtin; refine wpList_more_nodes rfl _ _ rfl (fun b => v8.ownBlock = some b ∨ v9.ownBlock = some b) z wr.heap.size v7 (nest5 x.shp :: R7) F A5 m c5 rfl HR5.out.1 rfl HM.out HN5.out HZR.out HL0.out.1 (fun b hb e => by rcases e with e | e; exact Nat.lt_irrefl _ (Nat.lt_of_lt_of_le (HL0.out.2.1 b e) hb); exact Nat.lt_irrefl _ (Nat.lt_of_lt_of_le (HL0.out.2.2 b e) hb)) (by rw [List.length_cons]; have := HSA.out; omega) ?_; intro v7' w6 HO6 HB6 HA6)
      have HR6 := Lib.hid (HR5.out.put7 HO6.out HA6.out)
      have HG6 : Hid (Grow w2 w6) := Lib.hid (by
        have h1 := HG5.out
        unfold Grow at h1 ⊢
        rw [HZ.out] at h1 ⊢
        exact Below.trans h1 HB6.out)
      have hN6 := HN5.out.keep (w' := w6) (T' := fun b => wr.heap.size ≤ b ∧ b < w6.heap.size) (fun b hb => ⟨⟨hb.1, Nat.lt_of_lt_of_le hb.2 HB6.out.size⟩, HA6.out.1 b hb.2 fun e => Nat.lt_irrefl _ (Nat.lt_of_lt_of_le (HL0.out.1 b e) hb.1)⟩)
      obtain ⟨b5, o5, rfl, hb5, hat⟩ := hN6 (by rw [HM.out]; exact HFP.out)
      obtain ⟨B1, d1, B2, d2, B3, d3, q0, q1, q2, q3, n1, n2, n3⟩ := hat 0 (by rw [HM.out]; exact HFP.out)
      rw [HF0.out] at q0 q1 q2 q3 n1 n2 n3
      rw [Nat.zero_mul, Nat.add_zero] at q0 q1 q2 q3
      have HND0 : Hid (IsNd w6 w6.heap.size B1 B2 B3 h0) := Lib.hid ⟨n1.nums, n2.nums, n3.decs⟩
      have HB5 := Lib.hid hb5
      clear hat hN6 n1 n2 n3 hb5 HO6 HB6 HA6 HR5 HG5 HN5 HF0
      have HRV := Lib.hid (fun W h => rvalues_any h0 B1 B2 B3 d1 d2 d3 W HFIT.out HIN.out h)
      have HSY := Lib.hid (fun a b => sgs_yes (h := h0) a b)
      have HSN := Lib.hid (fun a => sgs_no (h := h0) a)
      have HNY := Lib.hid (fun a b c => nbs_yes (h := h0) a b c)
      have HNN := Lib.hid (fun a => nbs_no (h := h0) a)
      have hil := HFIT.out.2.2.1
      have hdl := HFIT.out.2.2.2.1
      generalize h0.kind = kd at *
      generalize h0.shp.length = ls at *
      obtain ⟨li, hli⟩ : ∃ li, h0.ints.length = li := ⟨_, rfl⟩
      have HLI := Lib.hid hli
      rw [hli] at HRV hil
      rw [hli] at q2
      obtain ⟨ld, hld⟩ : ∃ ld, h0.decs.length = ld := ⟨_, rfl⟩
      have HLD := Lib.hid hld
      rw [hld] at HRV q3 hdl
      clear hli hld
      by_cases hls : ls = 0
      rotate_left
      · have h1 : (((ls : Nat) : Int) == 0) = false := by simp; omega
        have HS8 := Lib.hid (HSN.out (fun e => hls e.1))
        have HS9 := Lib.hid (HNN.out (fun e => hls e.1))
        rw [HS8.out, List.append_nil] at HST8
        rw [HS9.out, List.append_nil] at HST9
        clear hls
        go_wp2_with fail
        go_roundg (nk - (k + 1))
        case rel => exact ⟨k + 1, v7', v8, v9, by omega, rfl, by go_num, rfl, rfl, rfl, Lib.hid (by rw [HST7.out, HST8.out, HST9.out]; exact HR6.out), HG6⟩
        case measure => omega
      subst hls
      by_cases hk3 : kd = 3
      · subst hk3
        have HS8 := Lib.hid (HSY.out rfl rfl)
        have HS9 := Lib.hid (HNN.out (fun e => e.2.1 rfl))
        rw [HS8.out] at HST8
        rw [HS9.out, List.append_nil] at HST9
        have HI6 : Hid (Nums .i64 w6 w6.heap.size B2 h0.ints) := Lib.hid HND0.out.2.1
        have HZ6 := Lib.hid HR6.out.size
        go_upto_region 18 with (at_builtin; refine wpList_more_ints rfl _ _ rfl z v8 R8 B2 li d2 h0.ints rfl HR6.out.2.1 rfl HLI.out HI6.out (by have := HSL.out; omega) HZ6.out ?_; intro v8' w7 HO7 HB7 HA7)
        have HR7 := Lib.hid (HR6.out.put8 HO7.out HB7.out HA7.out)
        have HG7 : Hid (Grow w2 w7) := Lib.hid (by
          have h1 := HG6.out
          unfold Grow at h1 ⊢
          rw [HZ.out] at h1 ⊢
          exact Below.trans h1 HB7.out)
        have hkp := HA7.out.1 b5 HB5.out.2 (fun e => Nat.lt_irrefl _ (Nat.lt_of_lt_of_le (HL0.out.2.1 b5 e) HB5.out.1))
        have r0 := (cell_keep hkp o5).trans q0
        have r1 := (cell_keep hkp (o5 + 1)).trans q1
        clear hkp q0 q1 q2 q3 HO7 HB7 HA7 HR6 HG6
        go_wp2_with fail
        go_roundg (nk - (k + 1))
        case rel => exact ⟨k + 1, v7', v8', v9, by omega, rfl, by go_num, rfl, rfl, rfl, Lib.hid (by rw [HST7.out, HST8.out, HST9.out]; exact HR7.out), HG7⟩
        case measure => omega
      have h3 : (kd == 3) = false := by simpa using hk3
      have h3' : (kd != 3) = true := by simpa using hk3
      have HS8 := Lib.hid (HSN.out (fun e => hk3 e.2))
      rw [HS8.out, List.append_nil] at HST8
      by_cases hk5 : kd = 5
      · subst hk5
        have HS9 := Lib.hid (HNN.out (fun e => e.2.2 rfl))
        rw [HS9.out, List.append_nil] at HST9
        clear h3 h3' hk3
        go_wp2_with fail
        go_roundg (nk - (k + 1))
        case rel => exact ⟨k + 1, v7', v8, v9, by omega, rfl, by go_num, rfl, rfl, rfl, Lib.hid (by rw [HST7.out, HST8.out, HST9.out]; exact HR6.out), HG6⟩
        case measure => omega
      have h5' : (kd != 5) = true := by simpa using hk5
      have HS9 := Lib.hid (HNY.out rfl hk3 hk5)
      rw [HS9.out] at HST9
      clear hk3 hk5
      have HC6 := Lib.hid (HRV.out w6 HND0.out)
      have HVL : Hid ((valsR h0).length ≤ 2200000) := Lib.hid (by unfold valsR; rw [List.length_append, List.length_map, HLI.out, HLD.out]; omega)
      go_wp2_with fail
      refine (HC6.out).mono ?_
      rintro e w7 ⟨A7, c7, rfl, -, hv7, hg7⟩
      have HR7 := Lib.hid (HR6.out.grow hg7)
      have HG7 := Lib.hid (HG6.out.trans hg7)
      have HD7 := Lib.hid hv7.decs
      have HZ7 := Lib.hid HR7.out.size
      clear hv7 hg7 HC6 HR6 HG6 q0 q1 q2 q3
      generalize valsR h0 = vs at *
      obtain ⟨lv, hlv⟩ : ∃ lv, vs.length = lv := ⟨_, rfl⟩
      have HLV := Lib.hid hlv
      rw [hlv] at HVL ⊢
      clear hlv
      go_wp2_with (at_builtin; refine wpList_more_decs rfl _ _ rfl z v9 R9 A7 lv c7 vs rfl HR7.out.2.2.1 rfl HLV.out HD7.out (by have h1 := HNL.out; have h2 := HVL.out; omega) HZ7.out ?_; intro v9' w8 HO8 HB8 HA8)
      have HR8 := Lib.hid (HR7.out.put9 HO8.out HB8.out HA8.out)
      have HG8 : Hid (Grow w2 w8) := Lib.hid (by
        have h1 := HG7.out
        unfold Grow at h1 ⊢
        rw [HZ.out] at h1 ⊢
        exact Below.trans h1 HB8.out)
      go_roundg (nk - (k + 1))
      case rel => exact ⟨k + 1, v7', v8, v9', by omega, rfl, by go_num, rfl, rfl, rfl, Lib.hid (by rw [HST7.out, HST8.out, HST9.out]; exact HR8.out), HG8⟩
      case measure => omega
    · obtain rfl : nk = k := by omega
      have hnn : ¬ ((nk : Nat) : Int) < ((nk : Nat) : Int) := by omega
      have HTA := Lib.hid (show fs.take nk = fs from List.take_of_length_le (by rw [HFN.out]; exact Nat.le_refl _))
      rw [HTA.out] at HRW
      have HNU := Lib.hid (fun h => num_docK (sh := x.shp) (fs := fs) HSB.out (by rw [HFN.out, ← HNK.out, HKC.out]) HALR.out h)
      have HSZW : Hid (w.heap.size ≤ z) := Lib.hid (by rw [← HZ.out]; exact HG2.out.size)
      have HBW := Lib.hid (HB2.out.grow HGR.out)
      have HSW := Lib.hid (HS2.out.grow HGR.out)
      have HGW := Lib.hid (HG2.out.trans HGR.out)
      obtain ⟨A7, c7, e7, hc7, hN7⟩ := HRW.out.1.nodes
      obtain ⟨A8, c8, e8, hc8, hN8⟩ := HRW.out.2.1.new
      obtain ⟨A9, c9, e9, hc9, hN9⟩ := HRW.out.2.2.1.new
      have HC7 := Lib.hid hc7
      have HN7 := Lib.hid hN7
      have HN8 := Lib.hid hN8
      have HN9 := Lib.hid hN9
      subst e7 e8 e9
      clear HRW hc7 hc8 hc9 hN7 hN8 hN9 HS2 HB2
      have HDK : Hid (docK (nest5 x.shp) fs = if (sgK fs).length = nk then [⟨3, x.shp, sgK fs, []⟩] else if (nbK fs).length = nk then [leastN x.shp (nbK fs)] else nest5 x.shp :: flatK fs) := Lib.hid (by rw [← HFN.out]; rfl)
      rw [HFN.out] at HNU
      have d1 := HBW.out.at1
      generalize sgK fs = S8 at *
      generalize nbK fs = S9 at *
      obtain ⟨l7, hl7⟩ : ∃ l7, (nest5 x.shp :: flatK fs).length = l7 := ⟨_, rfl⟩
      have HL7 := Lib.hid hl7
      rw [hl7]
      rw [hl7] at HC7
      obtain ⟨l8, hl8⟩ : ∃ l8, S8.length = l8 := ⟨_, rfl⟩
      have HL8 := Lib.hid hl8
      rw [hl8] at HDK ⊢
      obtain ⟨l9, hl9⟩ : ∃ l9, S9.length = l9 := ⟨_, rfl⟩
      have HL9 := Lib.hid hl9
      rw [hl9] at HDK HNU ⊢
      clear hl7 hl8 hl9
      by_cases h8 : l8 = nk
      · subst h8
        have HFE : Hid (formA ns = [⟨3, x.shp, S8, []⟩]) := Lib.hid (by rw [HDOC.out, HDK.out, if_pos rfl])
        have hgl := grow_new wr (.cells #[] 3)
        have HE5 := Lib.hid (ownI_lit00 (B := wr.heap.size) wr (Nat.le_refl _))
        have HS5 := Lib.hid (HSW.out.grow hgl)
        have HZ5 : Hid (wr.heap.size ≤ (wr.alloc (.cells #[] 3)).heap.size) := Lib.hid hgl.size
        have d1' := (HBW.out.grow hgl).at1
        have HGL := Lib.hid hgl
        clear hgl
        go_wp2_with (at_builtin; refine wpList_more_ints rfl _ _ rfl wr.heap.size (.slice (some ⟨wr.heap.size, 0, none⟩) 0 0) [] A1 l1 c1 x.shp rfl HE5.out rfl HL1.out HS5.out (by simp; omega) HZ5.out ?_; intro v5 w5 HO5 HB5 HA5; obtain ⟨As, cA, e5, hcA, hNA⟩ := HO5.out.new; rw [List.nil_append, HL1.out] at e5; subst e5)
        go_ret
        rw [HFE.out]
        have hg5 : Grow wr w5 := Below.trans HGL.out HB5.out
        have hgs := (HGW.out.trans hg5)
        have hzw : w.heap.size ≤ wr.heap.size := HGW.out.size
        have hNA' : NewN wr.heap.size As x.shp w5 := hNA
        exact ⟨_, 1, rfl, Nat.le_refl _, node_litT (z := w.heap.size) (q := ⟨3, x.shp, S8, []⟩) HL1.out HL8.out rfl hgs.size ⟨hNA'.keep fun b hb => ⟨⟨Nat.le_trans hzw hb.1, hb.2⟩, rfl⟩, HN8.out.keep fun b hb => ⟨⟨Nat.le_trans HSZW.out hb.1, Nat.lt_of_lt_of_le hb.2 hg5.size⟩, hg5.block b hb.2⟩, DecsT.nil_⟩, hgs.trans (grow_new _ _)⟩
      · have h8' : (((l8 : Nat) : Int) == ((nk : Nat) : Int)) = false := by simp; omega
        by_cases h9 : l9 = nk
        · subst h9
          have HFE : Hid (formA ns = [leastN x.shp S9]) := Lib.hid (by rw [HDOC.out, HDK.out, if_neg h8, if_pos rfl])
          obtain ⟨hno, hin⟩ := HNU.out rfl
          obtain ⟨q, hq⟩ : ∃ q, leastN x.shp S9 = q := ⟨_, rfl⟩
          rw [hq] at hno HFE
          have hrn := rnumbers_any A1 l1 c1 x.shp A9 l9 c9 S9 wr HL1.out hs1 HSW.out HL9.out (by omega) hin HN9.out.decs
          rw [hno] at hrn
          have HRN := Lib.hid hrn
          clear hrn hno hin hq HNU HDK h8
          go_wp2_with fail
          refine (HRN.out).mono ?_
          rintro e w5 ⟨hg5, v, rfl, B1, e1, B2, e2, B3, e3, rfl, m1, m2, m3⟩
          have hnd := NdT.lt ⟨m1, m2, m3⟩
          have HND5 := Lib.hid hnd
          have HG5 := Lib.hid hg5
          obtain ⟨q1, hq1⟩ : ∃ q1, q.shp.length = q1 := ⟨_, rfl⟩
          obtain ⟨q2, hq2⟩ : ∃ q2, q.ints.length = q2 := ⟨_, rfl⟩
          obtain ⟨q3, hq3⟩ : ∃ q3, q.decs.length = q3 := ⟨_, rfl⟩
          have HQ1 := Lib.hid hq1
          have HQ2 := Lib.hid hq2
          have HQ3 := Lib.hid hq3
          rw [hq1, hq2, hq3]
          clear hq1 hq2 hq3 m1 m2 m3 hg5 hnd HRN d1
          go_upto_region 24 with fail
          have hb0 := boxN_new w5 q.kind B1 q1 e1 B2 q2 e2 B3 q3 e3
          have t0 := hb0.at0
          have t1 := hb0.at1
          have t2 := hb0.at2
          have t3 := hb0.at3
          have HGB := Lib.hid (grow_new w5 (.cells #[.int .i64 q.kind, .slice B1 q1 e1, .slice B2 q2 e2, .slice B3 q3 e3] 30))
          clear hb0
          go_wp2
          go_ret
          rw [HFE.out]
          have hgs := (HGW.out.trans HG5.out).trans HGB.out
          have hzw : w.heap.size ≤ wr.heap.size := HGW.out.size
          have hnl := node_litT (z := w.heap.size) (e1 := e1) (e2 := e2) (e3 := e3) HQ1.out HQ2.out HQ3.out hgs.size (HND5.out.keep fun b hb => ⟨⟨Nat.le_trans hzw hb.1, Nat.lt_of_lt_of_le hb.2 HGB.out.size⟩, HGB.out.block b hb.2⟩)
          have hsz : (w5.alloc (.cells #[.int .i64 q.kind, .slice B1 q1 e1, .slice B2 q2 e2, .slice B3 q3 e3] 30)).heap.size = w5.heap.size + 1 := by simp
          rw [hsz] at hnl
          exact ⟨_, 1, rfl, Nat.le_refl _, hnl, hgs.trans (grow_new _ _)⟩
        · have h9' : (((l9 : Nat) : Int) == ((nk : Nat) : Int)) = false := by simp; omega
          have HFE : Hid (formA ns = nest5 x.shp :: flatK fs) := Lib.hid (by rw [HDOC.out, HDK.out, if_neg h8, if_neg h9])
          clear h8 h9 d1
          go_wp2
          go_ret
          rw [HFE.out]
          exact ⟨A7, c7, by rw [HL7.out]; rfl, by rw [HL7.out]; exact HC7.out, HN7.out.keep fun b hb => ⟨⟨Nat.le_trans HSZW.out hb.1, hb.2⟩, rfl⟩, HGW.out⟩
end Go.Proofs.Ytcljpcbgokgcdaa
