/-
  What the document's own form comes to: the tight form of a right array, in new memory.
-/
import Derived.Test.YtcljpcbgokgcdaaRNest
namespace Go.Proofs.Ytcljpcbgokgcdaa
open Go.RowKit Go.Lib
set_option linter.unusedSimpArgs false
set_option linter.unusedVariables false

theorem depth_pos {ns : List Nd} (h : rightA ns = true) : 1 ≤ (ws ns).d := by
  obtain ⟨s, hs⟩ := right_some h
  obtain ⟨n, l', t, rfl, hok, ht, rfl, hn, hi⟩ := right_parts hs
  rw [ws_some hs]
  simp only [top]; omega
theorem RCopyP.later {F : List Nd} {w w1 w' : World} {A' : Option Addr} {c' : Nat} (hg : Grow w w1) (hc : F.length ≤ c') (hN : NodesT (fun b => w1.heap.size ≤ b ∧ b < w'.heap.size) w' A' F) (hg' : Grow w1 w') : RCopyP F w (.returned (.slice A' F.length c')) w' :=
  ⟨A', c', rfl, hc, hN.keep fun b hb => ⟨⟨Nat.le_trans hg.size hb.1, hb.2⟩, rfl⟩, hg.trans hg'⟩

set_option maxRecDepth 10000 in
set_option maxHeartbeats 12800000 in
theorem rform_any (d : Nat) : ∀ (A : Option Addr) (n c : Nat) (ns : List Nd) (w : World), ns.length = n → n ≤ c → Fine ns → rightA ns = true → (ws ns).d ≤ d → Nodes w w.heap.size A ns →
    Calls Try.prog 30 #[.slice A n c] w (RCopyP (formA ns) w) := by
  induction d with
  | zero => intro A n c ns w _ _ _ hr hd _; have := depth_pos hr; omega
  | succ d ih =>
    intro A n c ns w hn hnc hf hr hd hns
    by_cases hnest : (ns.getD 0 nd0).kind = 5 ∧ kidsA ns ≠ []
    · exact rform_nest d ih A n c ns w hn hnc hf hr hd hns hnest.1 hnest.2
    have HNX := Lib.hid hnest
    have IH := Lib.hid ih
    clear ih hnest
    have hn6 : n ≤ 1100000 := by rw [← hn]; exact hf.1
    have hnp : 1 ≤ n := by rw [← hn]; exact List.length_pos_iff.2 (right_ne hr)
    have HN := Lib.hid hn
    have HF := Lib.hid hf
    have HR := Lib.hid hr
    have HD := Lib.hid hd
    have HNS := Lib.hid hns
    have HS := Lib.hid (fun h => form_sign hr hf h)
    have HL := Lib.hid (fun h3 h5 => form_leaf hr hf h3 h5)
    have HO := Lib.hid (fun h5 hk => form_none hr hf h5 hk)
    have HE := Lib.hid (fun h5 => form_nest hr hf h5)
    have HPL := Lib.hid (fun h => (kids_plain hr h).2.1)
    obtain ⟨b, off, rfl, hb, hat⟩ := hns (by omega)
    obtain ⟨A1, c1, A2, c2, A3, c3, p0, p1, p2, p3, hnd⟩ := hat 0 (by omega)
    rw [Nat.zero_mul, Nat.add_zero] at p0 p1 p2 p3
    have hxm : ns.getD 0 nd0 ∈ ns := by
      rw [show ns.getD 0 nd0 = ns[0]'(by omega) by simp [List.getD, show 0 < ns.length by omega]]
      exact List.getElem_mem _
    have HFX := Lib.hid (hf.2.1 _ hxm)
    have HVX := Lib.hid (hf.2.2 _ hxm)
    have HND := Lib.hid hnd
    clear hn hf hr hd hns hat hnd hb hxm
    generalize hx : ns.getD 0 nd0 = x at *
    have HX := Lib.hid hx
    clear hx
    have hbx := boxN_new w x.kind A1 x.shp.length c1 A2 x.ints.length c2 A3 x.decs.length c3
    have hg1 := grow_new w (.cells #[.int .i64 x.kind, .slice A1 x.shp.length c1, .slice A2 x.ints.length c2, .slice A3 x.decs.length c3] 30)
    have HBX := Lib.hid hbx
    have HG1 := Lib.hid hg1
    have HC1 := Lib.hid (rcopy_any (some ⟨b, off, none⟩) n c ns _ HN.out hn6 HF.out.2.1 (HNS.out.grow hg1))
    have HKD := Lib.hid (rkids_any (some ⟨b, off, none⟩) n c ns _ HN.out hn6 hnc HF.out.2.1 (HNS.out.grow hg1))
    clear hbx hg1
    by_cases h3 : x.kind = 3
    · have HFE := Lib.hid (HS.out h3)
      rw [h3] at p0 HBX HG1 HC1
      generalize x.shp.length = l1 at *
      generalize x.ints.length = l2 at *
      generalize x.decs.length = l3 at *
      clear HS HL HO HE HPL HKD
      go_enter Try.func30, Try.ntmps30
      go_wp2_with fail
      refine (HC1.out).mono ?_
      rintro e w2 ⟨A', c', rfl, hc', hN, hg⟩
      go_wp2
      go_ret
      have h := RCopyP.later HG1.out hc' hN hg
      rw [HFE.out]
      exact h
    · have h3' : (x.kind == 3) = false := by simpa using h3
      -- WAYS
      by_cases h5 : x.kind = 5
      rotate_left
      · have h5' : (x.kind != 5) = true := by simpa using h5
        have HLF := Lib.hid (HL.out h3 h5)
        have HK0 := Lib.hid (HPL.out h5)
        clear HS HL HO HPL
        have HRV := Lib.hid (fun W h => rvalues_any x A1 A2 A3 c1 c2 c3 W HFX.out HVX.out h)
        obtain ⟨hfe, hno, hin, hvl⟩ := HLF.out
        have HFE := Lib.hid hfe
        obtain ⟨vs, hvs⟩ : ∃ vs, valsR x = vs := ⟨_, rfl⟩
        rw [hvs] at hno hin hvl HRV HFE
        obtain ⟨nv, hnv⟩ : ∃ nv, vs.length = nv := ⟨_, rfl⟩
        rw [hnv] at hvl
        obtain ⟨q, hq⟩ : ∃ q, leastN x.shp vs = q := ⟨_, rfl⟩
        rw [hq] at hno HFE
        have hs1 := HFX.out.2.1
        have HRN : Hid (∀ AV cV W, Nums .i64 W W.heap.size A1 x.shp → Decs W W.heap.size AV vs → Calls Try.prog 14 #[.slice A1 x.shp.length c1, .slice AV nv cV] W (OneP (fun b => W.heap.size ≤ b) (some q) W)) := Lib.hid (fun AV cV W h1 h2 => by
          have h := rnumbers_any A1 x.shp.length c1 x.shp AV nv cV vs W rfl hs1 h1 hnv hvl hin h2
          rw [hno] at h
          exact h)
        have HNV := Lib.hid hnv
        clear hfe hno hin hvl hvs hq hs1 HLF hnv
        generalize x.kind = kd at *
        obtain ⟨l1, hl1⟩ : ∃ l1, x.shp.length = l1 := ⟨_, rfl⟩
        obtain ⟨l2, hl2⟩ : ∃ l2, x.ints.length = l2 := ⟨_, rfl⟩
        obtain ⟨l3, hl3⟩ : ∃ l3, x.decs.length = l3 := ⟨_, rfl⟩
        rw [hl1] at p1 HBX HG1 HKD HRV HRN
        rw [hl2] at p2 HBX HG1 HKD HRV
        rw [hl3] at p3 HBX HG1 HKD HRV
        clear hl1 hl2 hl3
        go_enter Try.func30, Try.ntmps30
        go_wp2_with fail
        refine (HKD.out).mono ?_
        rintro e w2 ⟨AK, cK, rfl, -, -, -, hg2⟩
        have HB2 := Lib.hid (HBX.out.grow hg2)
        have HG2 := Lib.hid (HG1.out.trans hg2)
        have HND2 := Lib.hid (HND.out.grow HG2.out)
        obtain ⟨nb, hnb⟩ : ∃ nb, w.heap.size = nb := ⟨_, rfl⟩
        have HNB := Lib.hid hnb
        have d0 := HB2.out.at0
        rw [hnb] at HB2 d0
        clear hg2 HKD HBX HG1 IH p0 p1 p2 p3
        rw [HK0.out]
        obtain ⟨z, hz⟩ : ∃ z, w2.heap.size = z := ⟨_, rfl⟩
        have HZW := Lib.hid hz
        clear hz
        go_wp2
        clear hnb d0
        refine wp_region_R ((Below z)) (n := 11) rfl (by kernel_rfl) ?_
        intro W0 hW0e hW0
        have HGW0 := Lib.hid hW0
        have HZ0 : Hid (W0.heap.size = z) := Lib.hid (by rw [hW0e]; exact HZW.out)
        have HB9 := Lib.hid (HB2.out.grow hW0)
        have HBK : Hid (∀ wg, Below z W0 wg → BoxN wg nb kd A1 l1 c1 A2 l2 c2 A3 l3 c3) := Lib.hid (fun wg h => HB9.out.grow (grow_z HZ0.out h))
        have b0 : ∀ wg, Below z W0 wg → wg.cell? ⟨nb, 0, none⟩ = some (.int .i64 kd) := fun wg h => (HBK.out wg h).at0
        have b1 : ∀ wg, Below z W0 wg → wg.cell? ⟨nb, 1, none⟩ = some (.slice A1 l1 c1) := fun wg h => (HBK.out wg h).at1
        have b2 : ∀ wg, Below z W0 wg → wg.cell? ⟨nb, 2, none⟩ = some (.slice A2 l2 c2) := fun wg h => (HBK.out wg h).at2
        have b3 : ∀ wg, Below z W0 wg → wg.cell? ⟨nb, 3, none⟩ = some (.slice A3 l3 c3) := fun wg h => (HBK.out wg h).at3
        have HNW := Lib.hid (HND2.out.grow HGW0.out)
        clear hW0e
        refine wpR_take (belowOrd z) (i := 0) (v := ?vf1) rfl (by kernel_rfl) (by kernel_rfl) (by kernel_rfl) (fun _ _ _ h => h) (by rfl) ?hf1 ?rf1
        case hf1 => (intro wg hSw; go_simp <;> with_reducible rfl)
        simp only [Act.put, List.setIfInBounds_toArray, List.set_cons_zero, List.set_cons_succ]
        refine wpR_take (belowOrd z) (i := 1) (v := ?vf2) rfl (by kernel_rfl) (by kernel_rfl) (by kernel_rfl) (fun _ _ _ h => h) (by rfl) ?hf2 ?rf2
        case hf2 => (intro wg hSw; go_simp <;> with_reducible rfl)
        simp only [Act.put, List.setIfInBounds_toArray, List.set_cons_zero, List.set_cons_succ]
        refine wpR_take (belowOrd z) (i := 2) (v := ?vf3) rfl (by kernel_rfl) (by kernel_rfl) (by kernel_rfl) (fun _ _ _ h => h) (by rfl) ?hf3 ?rf3
        case hf3 => (intro wg hSw; go_simp <;> with_reducible rfl)
        simp only [Act.put, List.setIfInBounds_toArray, List.set_cons_zero, List.set_cons_succ]
        refine wpR_two (i := 3) (j := 8) (by kernel_rfl) ?_ ?_
        · refine wpR_op (i := 3) rfl (by rfl) (fun K hK => ?_)
          go_simp
          refine (HRV.out W0 (HNW.out.grow (grow_z HZ0.out (((belowOrd z)).refl W0)))).mono ?_
          rintro e wM3 ⟨AV, cV, rfl, -, hv3, hN3⟩
          rw [HNV.out]
          have hM3 : Below z W0 wM3 := Below.mono hN3 (by rw [← HZ0.out]; exact ((((belowOrd z)).refl W0)).size)
          have hC3 : Decs wM3 wM3.heap.size AV vs := hv3.decs
          have HS3 := Lib.hid hN3.size
          clear hv3
          refine hK.out _ _ hM3 ?_
          clear hK K
          try simp only [Act.put, List.setIfInBounds_toArray, List.set_cons_zero, List.set_cons_succ]
          refine wpR_two (i := 4) (j := 8) (by kernel_rfl) ?_ ?_
          · refine wpR_op (i := 4) rfl (by rfl) (fun K hK => ?_)
            go_simp
            obtain ⟨zc, hzc⟩ : ∃ zc, (wM3).heap.size = zc := ⟨_, rfl⟩
            have HZC := Lib.hid hzc
            have HZL : Hid (z ≤ zc) := Lib.hid (by rw [← HZ0.out, ← hzc]; exact ((((belowOrd z)).trans (((belowOrd z)).refl W0) hM3)).size)
            refine (HRN.out AV cV wM3 ((HNW.out.grow (grow_z HZ0.out (((belowOrd z)).trans (((belowOrd z)).refl W0) hM3))).1) hC3).mono ?_
            clear hzc
            rintro e wM4 ⟨hN4, v, rfl, B1, e1, B2, e2, B3, e3, rfl, m1, m2, m3⟩
            have hM4 : Below z wM3 wM4 := Below.mono hN4 (by rw [HZC.out]; exact HZL.out)
            have hC4 : NdT (fun b => zc ≤ b ∧ b < wM4.heap.size) wM4 B1 B2 B3 q := by
              rw [HZC.out] at m1 m2 m3
              exact NdT.lt ⟨m1, m2, m3⟩
            obtain ⟨q1, hq1⟩ : ∃ q1, q.shp.length = q1 := ⟨_, rfl⟩
            obtain ⟨q2, hq2⟩ : ∃ q2, q.ints.length = q2 := ⟨_, rfl⟩
            obtain ⟨q3, hq3⟩ : ∃ q3, q.decs.length = q3 := ⟨_, rfl⟩
            have HQ1 := Lib.hid hq1
            have HQ2 := Lib.hid hq2
            have HQ3 := Lib.hid hq3
            rw [hq1, hq2, hq3]
            clear hq1 hq2 hq3 m1 m2 m3
            refine hK.out _ _ hM4 ?_
            clear hK K
            try simp only [Act.put, List.setIfInBounds_toArray, List.set_cons_zero, List.set_cons_succ]
            refine wpR_take (belowOrd z) (i := 5) (v := ?vf4) rfl (by kernel_rfl) (by kernel_rfl) (by kernel_rfl) (fun _ _ _ h => h) (by rfl) ?hf4 ?rf4
            case hf4 => (intro wg hSw; go_simp <;> with_reducible rfl)
            simp only [Act.put, List.setIfInBounds_toArray, List.set_cons_zero, List.set_cons_succ]
            refine wpR_take (belowOrd z) (i := 6) (v := ?vf5) rfl (by kernel_rfl) (by kernel_rfl) (by kernel_rfl) (fun _ _ _ h => h) (by rfl) ?hf5 ?rf5
            case hf5 => (intro wg hSw; go_simp <;> with_reducible rfl)
            simp only [Act.put, List.setIfInBounds_toArray, List.set_cons_zero, List.set_cons_succ]
            refine wpR_take (belowOrd z) (i := 7) (v := ?vf6) rfl (by kernel_rfl) (by kernel_rfl) (by kernel_rfl) (fun _ _ _ h => h) (by rfl) ?hf6 ?rf6
            case hf6 => (intro wg hSw; go_simp <;> with_reducible rfl)
            simp only [Act.put, List.setIfInBounds_toArray, List.set_cons_zero, List.set_cons_succ]
            refine wpR_one (i := 8) (by kernel_rfl) ?_
            refine wpR_op (i := 8) rfl (by rfl) (fun K hK => ?_)
            go_simp
            refine hK.out _ _ (Below.mono (grow_new _ _) (by rw [← HZ0.out]; exact ((((belowOrd z)).trans (((belowOrd z)).trans (((belowOrd z)).refl W0) hM3) hM4)).size)) ?_
            clear hK K
            try simp only [Act.put, List.setIfInBounds_toArray, List.set_cons_zero, List.set_cons_succ]
            obtain ⟨tb, htb⟩ : ∃ tb, (wM4).heap.size = tb := ⟨_, rfl⟩
            have HTB := Lib.hid htb
            have hbs := boxN_new wM4 0 none 0 0 none 0 0 none 0 0
            have hgs := grow_new wM4 (.cells #[.int .i64 0, .slice none 0 0, .slice none 0 0, .slice none 0 0] 30)
            have hsz : (World.alloc wM4 (.cells #[.int .i64 0, .slice none 0 0, .slice none 0 0, .slice none 0 0] 30)).heap.size = tb + 1 := by rw [← htb]; simp
            rw [htb] at hbs ⊢
            have HTL : Hid (z ≤ tb) := Lib.hid (by rw [← HZ0.out, ← htb]; exact ((((belowOrd z)).trans (((belowOrd z)).trans (((belowOrd z)).refl W0) hM3) hM4)).size)
            generalize hwM8 : World.alloc wM4 (.cells #[.int .i64 0, .slice none 0 0, .slice none 0 0, .slice none 0 0] 30) = wM8 at *
            have hC8 : BoxN wM8 tb 0 none 0 0 none 0 0 none 0 0 := hbs
            have hN8 : Grow wM4 wM8 := hgs
            have hM8 : Below z wM4 wM8 := Below.mono hgs (by rw [← HZ0.out]; exact ((((belowOrd z)).trans (((belowOrd z)).trans (((belowOrd z)).refl W0) hM3) hM4)).size)
            have HZ8 := Lib.hid hsz
            clear hwM8 htb hbs hgs hsz
            refine wpR_one (i := 9) (by kernel_rfl) ?_
            refine wpR_op (i := 9) rfl (by rfl) (fun K hK => ?_)
            have HBB := Lib.hid hC8
            have f0 := HBB.out.froz 0
            have f1 := HBB.out.froz 1
            have f2 := HBB.out.froz 2
            have f3 := HBB.out.froz 3
            have d0 := HBB.out.at0
            have d1 := HBB.out.at1
            have d2 := HBB.out.at2
            have d3 := HBB.out.at3
            go_simp
            refine hK.out _ _ (below_put4 HTL.out _ _ _ _) ?_
            clear hK K
            try simp only [Act.put, List.setIfInBounds_toArray, List.set_cons_zero, List.set_cons_succ]
            have HB9' := Lib.hid (HBB.out.store q.kind B1 B2 B3 q1 e1 q2 e2 q3 e3)
            have HG9' : Hid (Grow W0 ((((World.setCell wM8 ⟨tb, 0, none⟩ (.int .i64 q.kind)).setCell ⟨tb, 1, none⟩ (.slice B1 q1 e1)).setCell ⟨tb, 2, none⟩ (.slice B2 q2 e2)).setCell ⟨tb, 3, none⟩ (.slice B3 q3 e3))) := Lib.hid (grow_z HZ0.out (Below.trans (((belowOrd z)).trans (((belowOrd z)).trans (((belowOrd z)).trans (((belowOrd z)).refl W0) hM3) hM4) hM8) (below_put4 HTL.out _ _ _ _)))
            have hM9' := below_put4 (w := wM8) HTL.out (.int .i64 q.kind) (.slice B1 q1 e1) (.slice B2 q2 e2) (.slice B3 q3 e3)
            have HD9' : Hid (NdT (fun b => z ≤ b) ((((World.setCell wM8 ⟨tb, 0, none⟩ (.int .i64 q.kind)).setCell ⟨tb, 1, none⟩ (.slice B1 q1 e1)).setCell ⟨tb, 2, none⟩ (.slice B2 q2 e2)).setCell ⟨tb, 3, none⟩ (.slice B3 q3 e3)) B1 B2 B3 q) := Lib.hid (((hC4.grow hN8)).keep fun b hb => ⟨Nat.le_trans HZL.out hb.1, other4 (by have h1 := hb.1; have h2 := hb.2; have h4 := HTB.out; have h5 := HZ8.out; have h6 := HZC.out; have h7 := HS3.out; omega) _ _ _ _⟩)
            clear f0 f1 f2 f3 d0 d1 d2 d3
            generalize hw9 : World.setCell (World.setCell (World.setCell (World.setCell wM8 ⟨tb, 0, none⟩ (.int .i64 q.kind)) ⟨tb, 1, none⟩ (.slice B1 q1 e1)) ⟨tb, 2, none⟩ (.slice B2 q2 e2)) ⟨tb, 3, none⟩ (.slice B3 q3 e3) = wM9 at *
            have hM9 := hM9'
            clear hw9 hM9'
            refine wpR_take (belowOrd z) (i := 10) (v := ?vf7) rfl (by kernel_rfl) (by kernel_rfl) (by kernel_rfl) (fun _ _ _ h => h) (by rfl) ?hf7 ?rf7
            case hf7 => (intro wg hSw; go_simp <;> with_reducible rfl)
            simp only [Act.put, List.setIfInBounds_toArray, List.set_cons_zero, List.set_cons_succ]
            refine wpR_done (by kernel_rfl) ?_
            have HGT := Lib.hid (HG2.out.trans (HGW0.out.trans HG9'.out))
            have t0 := HB9'.out.at0
            have t1 := HB9'.out.at1
            have t2 := HB9'.out.at2
            have t3 := HB9'.out.at3
            clear b0 b1 b2 b3 HBK
            go_wp2
            go_ret
            have HZT := HGT.out.size
            have hnl := node_litT (z := w.heap.size) (e1 := e1) (e2 := e2) (e3 := e3) HQ1.out HQ2.out HQ3.out HZT (HD9'.out.lt.keep fun b hb => ⟨⟨by have h1 := hb.1; have h2 := HG2.out.size; have h3 := HZW.out; omega, hb.2⟩, rfl⟩)
            rw [HFE.out]
            exact ⟨_, 1, rfl, Nat.le_refl _, hnl, HGT.out.trans (grow_new _ _)⟩
          · refine wpR_op (i := 8) rfl (by rfl) (fun K hK => ?_)
            go_simp
            refine hK.out _ _ (Below.mono (grow_new _ _) (by rw [← HZ0.out]; exact ((((belowOrd z)).trans (((belowOrd z)).refl W0) hM3)).size)) ?_
            clear hK K
            try simp only [Act.put, List.setIfInBounds_toArray, List.set_cons_zero, List.set_cons_succ]
            obtain ⟨tb, htb⟩ : ∃ tb, (wM3).heap.size = tb := ⟨_, rfl⟩
            have HTB := Lib.hid htb
            have hbs := boxN_new wM3 0 none 0 0 none 0 0 none 0 0
            have hgs := grow_new wM3 (.cells #[.int .i64 0, .slice none 0 0, .slice none 0 0, .slice none 0 0] 30)
            have hsz : (World.alloc wM3 (.cells #[.int .i64 0, .slice none 0 0, .slice none 0 0, .slice none 0 0] 30)).heap.size = tb + 1 := by rw [← htb]; simp
            rw [htb] at hbs ⊢
            have HTL : Hid (z ≤ tb) := Lib.hid (by rw [← HZ0.out, ← htb]; exact ((((belowOrd z)).trans (((belowOrd z)).refl W0) hM3)).size)
            generalize hwM8 : World.alloc wM3 (.cells #[.int .i64 0, .slice none 0 0, .slice none 0 0, .slice none 0 0] 30) = wM8 at *
            have hC8 : BoxN wM8 tb 0 none 0 0 none 0 0 none 0 0 := hbs
            have hN8 : Grow wM3 wM8 := hgs
            have hM8 : Below z wM3 wM8 := Below.mono hgs (by rw [← HZ0.out]; exact ((((belowOrd z)).trans (((belowOrd z)).refl W0) hM3)).size)
            have HZ8 := Lib.hid hsz
            clear hwM8 htb hbs hgs hsz
            refine wpR_one (i := 4) (by kernel_rfl) ?_
            refine wpR_op (i := 4) rfl (by rfl) (fun K hK => ?_)
            go_simp
            obtain ⟨zc, hzc⟩ : ∃ zc, (wM8).heap.size = zc := ⟨_, rfl⟩
            have HZC := Lib.hid hzc
            have HZL : Hid (z ≤ zc) := Lib.hid (by rw [← HZ0.out, ← hzc]; exact ((((belowOrd z)).trans (((belowOrd z)).trans (((belowOrd z)).refl W0) hM3) hM8)).size)
            refine (HRN.out AV cV wM8 ((HNW.out.grow (grow_z HZ0.out (((belowOrd z)).trans (((belowOrd z)).trans (((belowOrd z)).refl W0) hM3) hM8))).1) (hC3.grow hN8)).mono ?_
            clear hzc
            rintro e wM4 ⟨hN4, v, rfl, B1, e1, B2, e2, B3, e3, rfl, m1, m2, m3⟩
            have hM4 : Below z wM8 wM4 := Below.mono hN4 (by rw [HZC.out]; exact HZL.out)
            have hC4 : NdT (fun b => zc ≤ b ∧ b < wM4.heap.size) wM4 B1 B2 B3 q := by
              rw [HZC.out] at m1 m2 m3
              exact NdT.lt ⟨m1, m2, m3⟩
            obtain ⟨q1, hq1⟩ : ∃ q1, q.shp.length = q1 := ⟨_, rfl⟩
            obtain ⟨q2, hq2⟩ : ∃ q2, q.ints.length = q2 := ⟨_, rfl⟩
            obtain ⟨q3, hq3⟩ : ∃ q3, q.decs.length = q3 := ⟨_, rfl⟩
            have HQ1 := Lib.hid hq1
            have HQ2 := Lib.hid hq2
            have HQ3 := Lib.hid hq3
            rw [hq1, hq2, hq3]
            clear hq1 hq2 hq3 m1 m2 m3
            refine hK.out _ _ hM4 ?_
            clear hK K
            try simp only [Act.put, List.setIfInBounds_toArray, List.set_cons_zero, List.set_cons_succ]
            refine wpR_take (belowOrd z) (i := 5) (v := ?vf8) rfl (by kernel_rfl) (by kernel_rfl) (by kernel_rfl) (fun _ _ _ h => h) (by rfl) ?hf8 ?rf8
            case hf8 => (intro wg hSw; go_simp <;> with_reducible rfl)
            simp only [Act.put, List.setIfInBounds_toArray, List.set_cons_zero, List.set_cons_succ]
            refine wpR_take (belowOrd z) (i := 6) (v := ?vf9) rfl (by kernel_rfl) (by kernel_rfl) (by kernel_rfl) (fun _ _ _ h => h) (by rfl) ?hf9 ?rf9
            case hf9 => (intro wg hSw; go_simp <;> with_reducible rfl)
            simp only [Act.put, List.setIfInBounds_toArray, List.set_cons_zero, List.set_cons_succ]
            refine wpR_take (belowOrd z) (i := 7) (v := ?vf10) rfl (by kernel_rfl) (by kernel_rfl) (by kernel_rfl) (fun _ _ _ h => h) (by rfl) ?hf10 ?rf10
            case hf10 => (intro wg hSw; go_simp <;> with_reducible rfl)
            simp only [Act.put, List.setIfInBounds_toArray, List.set_cons_zero, List.set_cons_succ]
            refine wpR_one (i := 9) (by kernel_rfl) ?_
            refine wpR_op (i := 9) rfl (by rfl) (fun K hK => ?_)
            have HBB := Lib.hid (hC8.grow hN4)
            have f0 := HBB.out.froz 0
            have f1 := HBB.out.froz 1
            have f2 := HBB.out.froz 2
            have f3 := HBB.out.froz 3
            have d0 := HBB.out.at0
            have d1 := HBB.out.at1
            have d2 := HBB.out.at2
            have d3 := HBB.out.at3
            go_simp
            refine hK.out _ _ (below_put4 HTL.out _ _ _ _) ?_
            clear hK K
            try simp only [Act.put, List.setIfInBounds_toArray, List.set_cons_zero, List.set_cons_succ]
            have HB9' := Lib.hid (HBB.out.store q.kind B1 B2 B3 q1 e1 q2 e2 q3 e3)
            have HG9' : Hid (Grow W0 ((((World.setCell wM4 ⟨tb, 0, none⟩ (.int .i64 q.kind)).setCell ⟨tb, 1, none⟩ (.slice B1 q1 e1)).setCell ⟨tb, 2, none⟩ (.slice B2 q2 e2)).setCell ⟨tb, 3, none⟩ (.slice B3 q3 e3))) := Lib.hid (grow_z HZ0.out (Below.trans (((belowOrd z)).trans (((belowOrd z)).trans (((belowOrd z)).trans (((belowOrd z)).refl W0) hM3) hM8) hM4) (below_put4 HTL.out _ _ _ _)))
            have hM9' := below_put4 (w := wM4) HTL.out (.int .i64 q.kind) (.slice B1 q1 e1) (.slice B2 q2 e2) (.slice B3 q3 e3)
            have HD9' : Hid (NdT (fun b => z ≤ b) ((((World.setCell wM4 ⟨tb, 0, none⟩ (.int .i64 q.kind)).setCell ⟨tb, 1, none⟩ (.slice B1 q1 e1)).setCell ⟨tb, 2, none⟩ (.slice B2 q2 e2)).setCell ⟨tb, 3, none⟩ (.slice B3 q3 e3)) B1 B2 B3 q) := Lib.hid ((hC4).keep fun b hb => ⟨Nat.le_trans HZL.out hb.1, other4 (by have h1 := hb.1; have h2 := hb.2; have h4 := HTB.out; have h5 := HZ8.out; have h6 := HZC.out; have h7 := HS3.out; omega) _ _ _ _⟩)
            clear f0 f1 f2 f3 d0 d1 d2 d3
            generalize hw9 : World.setCell (World.setCell (World.setCell (World.setCell wM4 ⟨tb, 0, none⟩ (.int .i64 q.kind)) ⟨tb, 1, none⟩ (.slice B1 q1 e1)) ⟨tb, 2, none⟩ (.slice B2 q2 e2)) ⟨tb, 3, none⟩ (.slice B3 q3 e3) = wM9 at *
            have hM9 := hM9'
            clear hw9 hM9'
            refine wpR_take (belowOrd z) (i := 10) (v := ?vf11) rfl (by kernel_rfl) (by kernel_rfl) (by kernel_rfl) (fun _ _ _ h => h) (by rfl) ?hf11 ?rf11
            case hf11 => (intro wg hSw; go_simp <;> with_reducible rfl)
            simp only [Act.put, List.setIfInBounds_toArray, List.set_cons_zero, List.set_cons_succ]
            refine wpR_done (by kernel_rfl) ?_
            have HGT := Lib.hid (HG2.out.trans (HGW0.out.trans HG9'.out))
            have t0 := HB9'.out.at0
            have t1 := HB9'.out.at1
            have t2 := HB9'.out.at2
            have t3 := HB9'.out.at3
            clear b0 b1 b2 b3 HBK
            go_wp2
            go_ret
            have HZT := HGT.out.size
            have hnl := node_litT (z := w.heap.size) (e1 := e1) (e2 := e2) (e3 := e3) HQ1.out HQ2.out HQ3.out HZT (HD9'.out.lt.keep fun b hb => ⟨⟨by have h1 := hb.1; have h2 := HG2.out.size; have h3 := HZW.out; omega, hb.2⟩, rfl⟩)
            rw [HFE.out]
            exact ⟨_, 1, rfl, Nat.le_refl _, hnl, HGT.out.trans (grow_new _ _)⟩
        · refine wpR_op (i := 8) rfl (by rfl) (fun K hK => ?_)
          go_simp
          refine hK.out _ _ (Below.mono (grow_new _ _) (by rw [← HZ0.out]; exact ((((belowOrd z)).refl W0)).size)) ?_
          clear hK K
          try simp only [Act.put, List.setIfInBounds_toArray, List.set_cons_zero, List.set_cons_succ]
          obtain ⟨tb, htb⟩ : ∃ tb, (W0).heap.size = tb := ⟨_, rfl⟩
          have HTB := Lib.hid htb
          have hbs := boxN_new W0 0 none 0 0 none 0 0 none 0 0
          have hgs := grow_new W0 (.cells #[.int .i64 0, .slice none 0 0, .slice none 0 0, .slice none 0 0] 30)
          have hsz : (World.alloc W0 (.cells #[.int .i64 0, .slice none 0 0, .slice none 0 0, .slice none 0 0] 30)).heap.size = tb + 1 := by rw [← htb]; simp
          rw [htb] at hbs ⊢
          have HTL : Hid (z ≤ tb) := Lib.hid (by rw [← HZ0.out, ← htb]; exact ((((belowOrd z)).refl W0)).size)
          generalize hwM8 : World.alloc W0 (.cells #[.int .i64 0, .slice none 0 0, .slice none 0 0, .slice none 0 0] 30) = wM8 at *
          have hC8 : BoxN wM8 tb 0 none 0 0 none 0 0 none 0 0 := hbs
          have hN8 : Grow W0 wM8 := hgs
          have hM8 : Below z W0 wM8 := Below.mono hgs (by rw [← HZ0.out]; exact ((((belowOrd z)).refl W0)).size)
          have HZ8 := Lib.hid hsz
          clear hwM8 htb hbs hgs hsz
          refine wpR_one (i := 3) (by kernel_rfl) ?_
          refine wpR_op (i := 3) rfl (by rfl) (fun K hK => ?_)
          go_simp
          refine (HRV.out wM8 (HNW.out.grow (grow_z HZ0.out (((belowOrd z)).trans (((belowOrd z)).refl W0) hM8)))).mono ?_
          rintro e wM3 ⟨AV, cV, rfl, -, hv3, hN3⟩
          rw [HNV.out]
          have hM3 : Below z wM8 wM3 := Below.mono hN3 (by rw [← HZ0.out]; exact ((((belowOrd z)).trans (((belowOrd z)).refl W0) hM8)).size)
          have hC3 : Decs wM3 wM3.heap.size AV vs := hv3.decs
          have HS3 := Lib.hid hN3.size
          clear hv3
          refine hK.out _ _ hM3 ?_
          clear hK K
          try simp only [Act.put, List.setIfInBounds_toArray, List.set_cons_zero, List.set_cons_succ]
          refine wpR_one (i := 4) (by kernel_rfl) ?_
          refine wpR_op (i := 4) rfl (by rfl) (fun K hK => ?_)
          go_simp
          obtain ⟨zc, hzc⟩ : ∃ zc, (wM3).heap.size = zc := ⟨_, rfl⟩
          have HZC := Lib.hid hzc
          have HZL : Hid (z ≤ zc) := Lib.hid (by rw [← HZ0.out, ← hzc]; exact ((((belowOrd z)).trans (((belowOrd z)).trans (((belowOrd z)).refl W0) hM8) hM3)).size)
          refine (HRN.out AV cV wM3 ((HNW.out.grow (grow_z HZ0.out (((belowOrd z)).trans (((belowOrd z)).trans (((belowOrd z)).refl W0) hM8) hM3))).1) hC3).mono ?_
          clear hzc
          rintro e wM4 ⟨hN4, v, rfl, B1, e1, B2, e2, B3, e3, rfl, m1, m2, m3⟩
          have hM4 : Below z wM3 wM4 := Below.mono hN4 (by rw [HZC.out]; exact HZL.out)
          have hC4 : NdT (fun b => zc ≤ b ∧ b < wM4.heap.size) wM4 B1 B2 B3 q := by
            rw [HZC.out] at m1 m2 m3
            exact NdT.lt ⟨m1, m2, m3⟩
          obtain ⟨q1, hq1⟩ : ∃ q1, q.shp.length = q1 := ⟨_, rfl⟩
          obtain ⟨q2, hq2⟩ : ∃ q2, q.ints.length = q2 := ⟨_, rfl⟩
          obtain ⟨q3, hq3⟩ : ∃ q3, q.decs.length = q3 := ⟨_, rfl⟩
          have HQ1 := Lib.hid hq1
          have HQ2 := Lib.hid hq2
          have HQ3 := Lib.hid hq3
          rw [hq1, hq2, hq3]
          clear hq1 hq2 hq3 m1 m2 m3
          refine hK.out _ _ hM4 ?_
          clear hK K
          try simp only [Act.put, List.setIfInBounds_toArray, List.set_cons_zero, List.set_cons_succ]
          refine wpR_take (belowOrd z) (i := 5) (v := ?vf12) rfl (by kernel_rfl) (by kernel_rfl) (by kernel_rfl) (fun _ _ _ h => h) (by rfl) ?hf12 ?rf12
          case hf12 => (intro wg hSw; go_simp <;> with_reducible rfl)
          simp only [Act.put, List.setIfInBounds_toArray, List.set_cons_zero, List.set_cons_succ]
          refine wpR_take (belowOrd z) (i := 6) (v := ?vf13) rfl (by kernel_rfl) (by kernel_rfl) (by kernel_rfl) (fun _ _ _ h => h) (by rfl) ?hf13 ?rf13
          case hf13 => (intro wg hSw; go_simp <;> with_reducible rfl)
          simp only [Act.put, List.setIfInBounds_toArray, List.set_cons_zero, List.set_cons_succ]
          refine wpR_take (belowOrd z) (i := 7) (v := ?vf14) rfl (by kernel_rfl) (by kernel_rfl) (by kernel_rfl) (fun _ _ _ h => h) (by rfl) ?hf14 ?rf14
          case hf14 => (intro wg hSw; go_simp <;> with_reducible rfl)
          simp only [Act.put, List.setIfInBounds_toArray, List.set_cons_zero, List.set_cons_succ]
          refine wpR_one (i := 9) (by kernel_rfl) ?_
          refine wpR_op (i := 9) rfl (by rfl) (fun K hK => ?_)
          have HBB := Lib.hid ((hC8.grow hN3).grow hN4)
          have f0 := HBB.out.froz 0
          have f1 := HBB.out.froz 1
          have f2 := HBB.out.froz 2
          have f3 := HBB.out.froz 3
          have d0 := HBB.out.at0
          have d1 := HBB.out.at1
          have d2 := HBB.out.at2
          have d3 := HBB.out.at3
          go_simp
          refine hK.out _ _ (below_put4 HTL.out _ _ _ _) ?_
          clear hK K
          try simp only [Act.put, List.setIfInBounds_toArray, List.set_cons_zero, List.set_cons_succ]
          have HB9' := Lib.hid (HBB.out.store q.kind B1 B2 B3 q1 e1 q2 e2 q3 e3)
          have HG9' : Hid (Grow W0 ((((World.setCell wM4 ⟨tb, 0, none⟩ (.int .i64 q.kind)).setCell ⟨tb, 1, none⟩ (.slice B1 q1 e1)).setCell ⟨tb, 2, none⟩ (.slice B2 q2 e2)).setCell ⟨tb, 3, none⟩ (.slice B3 q3 e3))) := Lib.hid (grow_z HZ0.out (Below.trans (((belowOrd z)).trans (((belowOrd z)).trans (((belowOrd z)).trans (((belowOrd z)).refl W0) hM8) hM3) hM4) (below_put4 HTL.out _ _ _ _)))
          have hM9' := below_put4 (w := wM4) HTL.out (.int .i64 q.kind) (.slice B1 q1 e1) (.slice B2 q2 e2) (.slice B3 q3 e3)
          have HD9' : Hid (NdT (fun b => z ≤ b) ((((World.setCell wM4 ⟨tb, 0, none⟩ (.int .i64 q.kind)).setCell ⟨tb, 1, none⟩ (.slice B1 q1 e1)).setCell ⟨tb, 2, none⟩ (.slice B2 q2 e2)).setCell ⟨tb, 3, none⟩ (.slice B3 q3 e3)) B1 B2 B3 q) := Lib.hid ((hC4).keep fun b hb => ⟨Nat.le_trans HZL.out hb.1, other4 (by have h1 := hb.1; have h2 := hb.2; have h4 := HTB.out; have h5 := HZ8.out; have h6 := HZC.out; have h7 := HS3.out; omega) _ _ _ _⟩)
          clear f0 f1 f2 f3 d0 d1 d2 d3
          generalize hw9 : World.setCell (World.setCell (World.setCell (World.setCell wM4 ⟨tb, 0, none⟩ (.int .i64 q.kind)) ⟨tb, 1, none⟩ (.slice B1 q1 e1)) ⟨tb, 2, none⟩ (.slice B2 q2 e2)) ⟨tb, 3, none⟩ (.slice B3 q3 e3) = wM9 at *
          have hM9 := hM9'
          clear hw9 hM9'
          refine wpR_take (belowOrd z) (i := 10) (v := ?vf15) rfl (by kernel_rfl) (by kernel_rfl) (by kernel_rfl) (fun _ _ _ h => h) (by rfl) ?hf15 ?rf15
          case hf15 => (intro wg hSw; go_simp <;> with_reducible rfl)
          simp only [Act.put, List.setIfInBounds_toArray, List.set_cons_zero, List.set_cons_succ]
          refine wpR_done (by kernel_rfl) ?_
          have HGT := Lib.hid (HG2.out.trans (HGW0.out.trans HG9'.out))
          have t0 := HB9'.out.at0
          have t1 := HB9'.out.at1
          have t2 := HB9'.out.at2
          have t3 := HB9'.out.at3
          clear b0 b1 b2 b3 HBK
          go_wp2
          go_ret
          have HZT := HGT.out.size
          have hnl := node_litT (z := w.heap.size) (e1 := e1) (e2 := e2) (e3 := e3) HQ1.out HQ2.out HQ3.out HZT (HD9'.out.lt.keep fun b hb => ⟨⟨by have h1 := hb.1; have h2 := HG2.out.size; have h3 := HZW.out; omega, hb.2⟩, rfl⟩)
          rw [HFE.out]
          exact ⟨_, 1, rfl, Nat.le_refl _, hnl, HGT.out.trans (grow_new _ _)⟩
      · have h5' : (x.kind != 5) = false := by simp [h5]
        by_cases hk0 : kidsA ns = []
        · have HLF := Lib.hid (HO.out h5 hk0)
          have HK0 := Lib.hid hk0
          clear hk0
          clear HS HL HO HPL
          have HRV := Lib.hid (fun W h => rvalues_any x A1 A2 A3 c1 c2 c3 W HFX.out HVX.out h)
          obtain ⟨hfe, hno, hin, hvl⟩ := HLF.out
          have HFE := Lib.hid hfe
          obtain ⟨vs, hvs⟩ : ∃ vs, valsR x = vs := ⟨_, rfl⟩
          rw [hvs] at hno hin hvl HRV HFE
          obtain ⟨nv, hnv⟩ : ∃ nv, vs.length = nv := ⟨_, rfl⟩
          rw [hnv] at hvl
          obtain ⟨q, hq⟩ : ∃ q, leastN x.shp vs = q := ⟨_, rfl⟩
          rw [hq] at hno HFE
          have hs1 := HFX.out.2.1
          have HRN : Hid (∀ AV cV W, Nums .i64 W W.heap.size A1 x.shp → Decs W W.heap.size AV vs → Calls Try.prog 14 #[.slice A1 x.shp.length c1, .slice AV nv cV] W (OneP (fun b => W.heap.size ≤ b) (some q) W)) := Lib.hid (fun AV cV W h1 h2 => by
            have h := rnumbers_any A1 x.shp.length c1 x.shp AV nv cV vs W rfl hs1 h1 hnv hvl hin h2
            rw [hno] at h
            exact h)
          have HNV := Lib.hid hnv
          clear hfe hno hin hvl hvs hq hs1 HLF hnv
          generalize x.kind = kd at *
          obtain ⟨l1, hl1⟩ : ∃ l1, x.shp.length = l1 := ⟨_, rfl⟩
          obtain ⟨l2, hl2⟩ : ∃ l2, x.ints.length = l2 := ⟨_, rfl⟩
          obtain ⟨l3, hl3⟩ : ∃ l3, x.decs.length = l3 := ⟨_, rfl⟩
          rw [hl1] at p1 HBX HG1 HKD HRV HRN
          rw [hl2] at p2 HBX HG1 HKD HRV
          rw [hl3] at p3 HBX HG1 HKD HRV
          clear hl1 hl2 hl3
          subst h5
          go_enter Try.func30, Try.ntmps30
          go_wp2_with fail
          refine (HKD.out).mono ?_
          rintro e w2 ⟨AK, cK, rfl, -, -, -, hg2⟩
          have HB2 := Lib.hid (HBX.out.grow hg2)
          have HG2 := Lib.hid (HG1.out.trans hg2)
          have HND2 := Lib.hid (HND.out.grow HG2.out)
          obtain ⟨nb, hnb⟩ : ∃ nb, w.heap.size = nb := ⟨_, rfl⟩
          have HNB := Lib.hid hnb
          have d0 := HB2.out.at0
          rw [hnb] at HB2 d0
          clear hg2 HKD HBX HG1 IH p0 p1 p2 p3
          rw [HK0.out]
          obtain ⟨z, hz⟩ : ∃ z, w2.heap.size = z := ⟨_, rfl⟩
          have HZW := Lib.hid hz
          clear hz
          go_wp2
          clear hnb d0
          refine wp_region_R ((Below z)) (n := 11) rfl (by kernel_rfl) ?_
          intro W0 hW0e hW0
          have HGW0 := Lib.hid hW0
          have HZ0 : Hid (W0.heap.size = z) := Lib.hid (by rw [hW0e]; exact HZW.out)
          have HB9 := Lib.hid (HB2.out.grow hW0)
          have HBK : Hid (∀ wg, Below z W0 wg → BoxN wg nb 5 A1 l1 c1 A2 l2 c2 A3 l3 c3) := Lib.hid (fun wg h => HB9.out.grow (grow_z HZ0.out h))
          have b0 : ∀ wg, Below z W0 wg → wg.cell? ⟨nb, 0, none⟩ = some (.int .i64 5) := fun wg h => (HBK.out wg h).at0
          have b1 : ∀ wg, Below z W0 wg → wg.cell? ⟨nb, 1, none⟩ = some (.slice A1 l1 c1) := fun wg h => (HBK.out wg h).at1
          have b2 : ∀ wg, Below z W0 wg → wg.cell? ⟨nb, 2, none⟩ = some (.slice A2 l2 c2) := fun wg h => (HBK.out wg h).at2
          have b3 : ∀ wg, Below z W0 wg → wg.cell? ⟨nb, 3, none⟩ = some (.slice A3 l3 c3) := fun wg h => (HBK.out wg h).at3
          have HNW := Lib.hid (HND2.out.grow HGW0.out)
          clear hW0e
          refine wpR_take (belowOrd z) (i := 0) (v := ?vf16) rfl (by kernel_rfl) (by kernel_rfl) (by kernel_rfl) (fun _ _ _ h => h) (by rfl) ?hf16 ?rf16
          case hf16 => (intro wg hSw; go_simp <;> with_reducible rfl)
          simp only [Act.put, List.setIfInBounds_toArray, List.set_cons_zero, List.set_cons_succ]
          refine wpR_take (belowOrd z) (i := 1) (v := ?vf17) rfl (by kernel_rfl) (by kernel_rfl) (by kernel_rfl) (fun _ _ _ h => h) (by rfl) ?hf17 ?rf17
          case hf17 => (intro wg hSw; go_simp <;> with_reducible rfl)
          simp only [Act.put, List.setIfInBounds_toArray, List.set_cons_zero, List.set_cons_succ]
          refine wpR_take (belowOrd z) (i := 2) (v := ?vf18) rfl (by kernel_rfl) (by kernel_rfl) (by kernel_rfl) (fun _ _ _ h => h) (by rfl) ?hf18 ?rf18
          case hf18 => (intro wg hSw; go_simp <;> with_reducible rfl)
          simp only [Act.put, List.setIfInBounds_toArray, List.set_cons_zero, List.set_cons_succ]
          refine wpR_two (i := 3) (j := 8) (by kernel_rfl) ?_ ?_
          · refine wpR_op (i := 3) rfl (by rfl) (fun K hK => ?_)
            go_simp
            refine (HRV.out W0 (HNW.out.grow (grow_z HZ0.out (((belowOrd z)).refl W0)))).mono ?_
            rintro e wM3 ⟨AV, cV, rfl, -, hv3, hN3⟩
            rw [HNV.out]
            have hM3 : Below z W0 wM3 := Below.mono hN3 (by rw [← HZ0.out]; exact ((((belowOrd z)).refl W0)).size)
            have hC3 : Decs wM3 wM3.heap.size AV vs := hv3.decs
            have HS3 := Lib.hid hN3.size
            clear hv3
            refine hK.out _ _ hM3 ?_
            clear hK K
            try simp only [Act.put, List.setIfInBounds_toArray, List.set_cons_zero, List.set_cons_succ]
            refine wpR_two (i := 4) (j := 8) (by kernel_rfl) ?_ ?_
            · refine wpR_op (i := 4) rfl (by rfl) (fun K hK => ?_)
              go_simp
              obtain ⟨zc, hzc⟩ : ∃ zc, (wM3).heap.size = zc := ⟨_, rfl⟩
              have HZC := Lib.hid hzc
              have HZL : Hid (z ≤ zc) := Lib.hid (by rw [← HZ0.out, ← hzc]; exact ((((belowOrd z)).trans (((belowOrd z)).refl W0) hM3)).size)
              refine (HRN.out AV cV wM3 ((HNW.out.grow (grow_z HZ0.out (((belowOrd z)).trans (((belowOrd z)).refl W0) hM3))).1) hC3).mono ?_
              clear hzc
              rintro e wM4 ⟨hN4, v, rfl, B1, e1, B2, e2, B3, e3, rfl, m1, m2, m3⟩
              have hM4 : Below z wM3 wM4 := Below.mono hN4 (by rw [HZC.out]; exact HZL.out)
              have hC4 : NdT (fun b => zc ≤ b ∧ b < wM4.heap.size) wM4 B1 B2 B3 q := by
                rw [HZC.out] at m1 m2 m3
                exact NdT.lt ⟨m1, m2, m3⟩
              obtain ⟨q1, hq1⟩ : ∃ q1, q.shp.length = q1 := ⟨_, rfl⟩
              obtain ⟨q2, hq2⟩ : ∃ q2, q.ints.length = q2 := ⟨_, rfl⟩
              obtain ⟨q3, hq3⟩ : ∃ q3, q.decs.length = q3 := ⟨_, rfl⟩
              have HQ1 := Lib.hid hq1
              have HQ2 := Lib.hid hq2
              have HQ3 := Lib.hid hq3
              rw [hq1, hq2, hq3]
              clear hq1 hq2 hq3 m1 m2 m3
              refine hK.out _ _ hM4 ?_
              clear hK K
              try simp only [Act.put, List.setIfInBounds_toArray, List.set_cons_zero, List.set_cons_succ]
              refine wpR_take (belowOrd z) (i := 5) (v := ?vf19) rfl (by kernel_rfl) (by kernel_rfl) (by kernel_rfl) (fun _ _ _ h => h) (by rfl) ?hf19 ?rf19
              case hf19 => (intro wg hSw; go_simp <;> with_reducible rfl)
              simp only [Act.put, List.setIfInBounds_toArray, List.set_cons_zero, List.set_cons_succ]
              refine wpR_take (belowOrd z) (i := 6) (v := ?vf20) rfl (by kernel_rfl) (by kernel_rfl) (by kernel_rfl) (fun _ _ _ h => h) (by rfl) ?hf20 ?rf20
              case hf20 => (intro wg hSw; go_simp <;> with_reducible rfl)
              simp only [Act.put, List.setIfInBounds_toArray, List.set_cons_zero, List.set_cons_succ]
              refine wpR_take (belowOrd z) (i := 7) (v := ?vf21) rfl (by kernel_rfl) (by kernel_rfl) (by kernel_rfl) (fun _ _ _ h => h) (by rfl) ?hf21 ?rf21
              case hf21 => (intro wg hSw; go_simp <;> with_reducible rfl)
              simp only [Act.put, List.setIfInBounds_toArray, List.set_cons_zero, List.set_cons_succ]
              refine wpR_one (i := 8) (by kernel_rfl) ?_
              refine wpR_op (i := 8) rfl (by rfl) (fun K hK => ?_)
              go_simp
              refine hK.out _ _ (Below.mono (grow_new _ _) (by rw [← HZ0.out]; exact ((((belowOrd z)).trans (((belowOrd z)).trans (((belowOrd z)).refl W0) hM3) hM4)).size)) ?_
              clear hK K
              try simp only [Act.put, List.setIfInBounds_toArray, List.set_cons_zero, List.set_cons_succ]
              obtain ⟨tb, htb⟩ : ∃ tb, (wM4).heap.size = tb := ⟨_, rfl⟩
              have HTB := Lib.hid htb
              have hbs := boxN_new wM4 0 none 0 0 none 0 0 none 0 0
              have hgs := grow_new wM4 (.cells #[.int .i64 0, .slice none 0 0, .slice none 0 0, .slice none 0 0] 30)
              have hsz : (World.alloc wM4 (.cells #[.int .i64 0, .slice none 0 0, .slice none 0 0, .slice none 0 0] 30)).heap.size = tb + 1 := by rw [← htb]; simp
              rw [htb] at hbs ⊢
              have HTL : Hid (z ≤ tb) := Lib.hid (by rw [← HZ0.out, ← htb]; exact ((((belowOrd z)).trans (((belowOrd z)).trans (((belowOrd z)).refl W0) hM3) hM4)).size)
              generalize hwM8 : World.alloc wM4 (.cells #[.int .i64 0, .slice none 0 0, .slice none 0 0, .slice none 0 0] 30) = wM8 at *
              have hC8 : BoxN wM8 tb 0 none 0 0 none 0 0 none 0 0 := hbs
              have hN8 : Grow wM4 wM8 := hgs
              have hM8 : Below z wM4 wM8 := Below.mono hgs (by rw [← HZ0.out]; exact ((((belowOrd z)).trans (((belowOrd z)).trans (((belowOrd z)).refl W0) hM3) hM4)).size)
              have HZ8 := Lib.hid hsz
              clear hwM8 htb hbs hgs hsz
              refine wpR_one (i := 9) (by kernel_rfl) ?_
              refine wpR_op (i := 9) rfl (by rfl) (fun K hK => ?_)
              have HBB := Lib.hid hC8
              have f0 := HBB.out.froz 0
              have f1 := HBB.out.froz 1
              have f2 := HBB.out.froz 2
              have f3 := HBB.out.froz 3
              have d0 := HBB.out.at0
              have d1 := HBB.out.at1
              have d2 := HBB.out.at2
              have d3 := HBB.out.at3
              go_simp
              refine hK.out _ _ (below_put4 HTL.out _ _ _ _) ?_
              clear hK K
              try simp only [Act.put, List.setIfInBounds_toArray, List.set_cons_zero, List.set_cons_succ]
              have HB9' := Lib.hid (HBB.out.store q.kind B1 B2 B3 q1 e1 q2 e2 q3 e3)
              have HG9' : Hid (Grow W0 ((((World.setCell wM8 ⟨tb, 0, none⟩ (.int .i64 q.kind)).setCell ⟨tb, 1, none⟩ (.slice B1 q1 e1)).setCell ⟨tb, 2, none⟩ (.slice B2 q2 e2)).setCell ⟨tb, 3, none⟩ (.slice B3 q3 e3))) := Lib.hid (grow_z HZ0.out (Below.trans (((belowOrd z)).trans (((belowOrd z)).trans (((belowOrd z)).trans (((belowOrd z)).refl W0) hM3) hM4) hM8) (below_put4 HTL.out _ _ _ _)))
              have hM9' := below_put4 (w := wM8) HTL.out (.int .i64 q.kind) (.slice B1 q1 e1) (.slice B2 q2 e2) (.slice B3 q3 e3)
              have HD9' : Hid (NdT (fun b => z ≤ b) ((((World.setCell wM8 ⟨tb, 0, none⟩ (.int .i64 q.kind)).setCell ⟨tb, 1, none⟩ (.slice B1 q1 e1)).setCell ⟨tb, 2, none⟩ (.slice B2 q2 e2)).setCell ⟨tb, 3, none⟩ (.slice B3 q3 e3)) B1 B2 B3 q) := Lib.hid (((hC4.grow hN8)).keep fun b hb => ⟨Nat.le_trans HZL.out hb.1, other4 (by have h1 := hb.1; have h2 := hb.2; have h4 := HTB.out; have h5 := HZ8.out; have h6 := HZC.out; have h7 := HS3.out; omega) _ _ _ _⟩)
              clear f0 f1 f2 f3 d0 d1 d2 d3
              generalize hw9 : World.setCell (World.setCell (World.setCell (World.setCell wM8 ⟨tb, 0, none⟩ (.int .i64 q.kind)) ⟨tb, 1, none⟩ (.slice B1 q1 e1)) ⟨tb, 2, none⟩ (.slice B2 q2 e2)) ⟨tb, 3, none⟩ (.slice B3 q3 e3) = wM9 at *
              have hM9 := hM9'
              clear hw9 hM9'
              refine wpR_take (belowOrd z) (i := 10) (v := ?vf22) rfl (by kernel_rfl) (by kernel_rfl) (by kernel_rfl) (fun _ _ _ h => h) (by rfl) ?hf22 ?rf22
              case hf22 => (intro wg hSw; go_simp <;> with_reducible rfl)
              simp only [Act.put, List.setIfInBounds_toArray, List.set_cons_zero, List.set_cons_succ]
              refine wpR_done (by kernel_rfl) ?_
              have HGT := Lib.hid (HG2.out.trans (HGW0.out.trans HG9'.out))
              have t0 := HB9'.out.at0
              have t1 := HB9'.out.at1
              have t2 := HB9'.out.at2
              have t3 := HB9'.out.at3
              clear b0 b1 b2 b3 HBK
              go_wp2
              go_ret
              have HZT := HGT.out.size
              have hnl := node_litT (z := w.heap.size) (e1 := e1) (e2 := e2) (e3 := e3) HQ1.out HQ2.out HQ3.out HZT (HD9'.out.lt.keep fun b hb => ⟨⟨by have h1 := hb.1; have h2 := HG2.out.size; have h3 := HZW.out; omega, hb.2⟩, rfl⟩)
              rw [HFE.out]
              exact ⟨_, 1, rfl, Nat.le_refl _, hnl, HGT.out.trans (grow_new _ _)⟩
            · refine wpR_op (i := 8) rfl (by rfl) (fun K hK => ?_)
              go_simp
              refine hK.out _ _ (Below.mono (grow_new _ _) (by rw [← HZ0.out]; exact ((((belowOrd z)).trans (((belowOrd z)).refl W0) hM3)).size)) ?_
              clear hK K
              try simp only [Act.put, List.setIfInBounds_toArray, List.set_cons_zero, List.set_cons_succ]
              obtain ⟨tb, htb⟩ : ∃ tb, (wM3).heap.size = tb := ⟨_, rfl⟩
              have HTB := Lib.hid htb
              have hbs := boxN_new wM3 0 none 0 0 none 0 0 none 0 0
              have hgs := grow_new wM3 (.cells #[.int .i64 0, .slice none 0 0, .slice none 0 0, .slice none 0 0] 30)
              have hsz : (World.alloc wM3 (.cells #[.int .i64 0, .slice none 0 0, .slice none 0 0, .slice none 0 0] 30)).heap.size = tb + 1 := by rw [← htb]; simp
              rw [htb] at hbs ⊢
              have HTL : Hid (z ≤ tb) := Lib.hid (by rw [← HZ0.out, ← htb]; exact ((((belowOrd z)).trans (((belowOrd z)).refl W0) hM3)).size)
              generalize hwM8 : World.alloc wM3 (.cells #[.int .i64 0, .slice none 0 0, .slice none 0 0, .slice none 0 0] 30) = wM8 at *
              have hC8 : BoxN wM8 tb 0 none 0 0 none 0 0 none 0 0 := hbs
              have hN8 : Grow wM3 wM8 := hgs
              have hM8 : Below z wM3 wM8 := Below.mono hgs (by rw [← HZ0.out]; exact ((((belowOrd z)).trans (((belowOrd z)).refl W0) hM3)).size)
              have HZ8 := Lib.hid hsz
              clear hwM8 htb hbs hgs hsz
              refine wpR_one (i := 4) (by kernel_rfl) ?_
              refine wpR_op (i := 4) rfl (by rfl) (fun K hK => ?_)
              go_simp
              obtain ⟨zc, hzc⟩ : ∃ zc, (wM8).heap.size = zc := ⟨_, rfl⟩
              have HZC := Lib.hid hzc
              have HZL : Hid (z ≤ zc) := Lib.hid (by rw [← HZ0.out, ← hzc]; exact ((((belowOrd z)).trans (((belowOrd z)).trans (((belowOrd z)).refl W0) hM3) hM8)).size)
              refine (HRN.out AV cV wM8 ((HNW.out.grow (grow_z HZ0.out (((belowOrd z)).trans (((belowOrd z)).trans (((belowOrd z)).refl W0) hM3) hM8))).1) (hC3.grow hN8)).mono ?_
              clear hzc
              rintro e wM4 ⟨hN4, v, rfl, B1, e1, B2, e2, B3, e3, rfl, m1, m2, m3⟩
              have hM4 : Below z wM8 wM4 := Below.mono hN4 (by rw [HZC.out]; exact HZL.out)
              have hC4 : NdT (fun b => zc ≤ b ∧ b < wM4.heap.size) wM4 B1 B2 B3 q := by
                rw [HZC.out] at m1 m2 m3
                exact NdT.lt ⟨m1, m2, m3⟩
              obtain ⟨q1, hq1⟩ : ∃ q1, q.shp.length = q1 := ⟨_, rfl⟩
              obtain ⟨q2, hq2⟩ : ∃ q2, q.ints.length = q2 := ⟨_, rfl⟩
              obtain ⟨q3, hq3⟩ : ∃ q3, q.decs.length = q3 := ⟨_, rfl⟩
              have HQ1 := Lib.hid hq1
              have HQ2 := Lib.hid hq2
              have HQ3 := Lib.hid hq3
              rw [hq1, hq2, hq3]
              clear hq1 hq2 hq3 m1 m2 m3
              refine hK.out _ _ hM4 ?_
              clear hK K
              try simp only [Act.put, List.setIfInBounds_toArray, List.set_cons_zero, List.set_cons_succ]
              refine wpR_take (belowOrd z) (i := 5) (v := ?vf23) rfl (by kernel_rfl) (by kernel_rfl) (by kernel_rfl) (fun _ _ _ h => h) (by rfl) ?hf23 ?rf23
              case hf23 => (intro wg hSw; go_simp <;> with_reducible rfl)
              simp only [Act.put, List.setIfInBounds_toArray, List.set_cons_zero, List.set_cons_succ]
              refine wpR_take (belowOrd z) (i := 6) (v := ?vf24) rfl (by kernel_rfl) (by kernel_rfl) (by kernel_rfl) (fun _ _ _ h => h) (by rfl) ?hf24 ?rf24
              case hf24 => (intro wg hSw; go_simp <;> with_reducible rfl)
              simp only [Act.put, List.setIfInBounds_toArray, List.set_cons_zero, List.set_cons_succ]
              refine wpR_take (belowOrd z) (i := 7) (v := ?vf25) rfl (by kernel_rfl) (by kernel_rfl) (by kernel_rfl) (fun _ _ _ h => h) (by rfl) ?hf25 ?rf25
              case hf25 => (intro wg hSw; go_simp <;> with_reducible rfl)
              simp only [Act.put, List.setIfInBounds_toArray, List.set_cons_zero, List.set_cons_succ]
              refine wpR_one (i := 9) (by kernel_rfl) ?_
              refine wpR_op (i := 9) rfl (by rfl) (fun K hK => ?_)
              have HBB := Lib.hid (hC8.grow hN4)
              have f0 := HBB.out.froz 0
              have f1 := HBB.out.froz 1
              have f2 := HBB.out.froz 2
              have f3 := HBB.out.froz 3
              have d0 := HBB.out.at0
              have d1 := HBB.out.at1
              have d2 := HBB.out.at2
              have d3 := HBB.out.at3
              go_simp
              refine hK.out _ _ (below_put4 HTL.out _ _ _ _) ?_
              clear hK K
              try simp only [Act.put, List.setIfInBounds_toArray, List.set_cons_zero, List.set_cons_succ]
              have HB9' := Lib.hid (HBB.out.store q.kind B1 B2 B3 q1 e1 q2 e2 q3 e3)
              have HG9' : Hid (Grow W0 ((((World.setCell wM4 ⟨tb, 0, none⟩ (.int .i64 q.kind)).setCell ⟨tb, 1, none⟩ (.slice B1 q1 e1)).setCell ⟨tb, 2, none⟩ (.slice B2 q2 e2)).setCell ⟨tb, 3, none⟩ (.slice B3 q3 e3))) := Lib.hid (grow_z HZ0.out (Below.trans (((belowOrd z)).trans (((belowOrd z)).trans (((belowOrd z)).trans (((belowOrd z)).refl W0) hM3) hM8) hM4) (below_put4 HTL.out _ _ _ _)))
              have hM9' := below_put4 (w := wM4) HTL.out (.int .i64 q.kind) (.slice B1 q1 e1) (.slice B2 q2 e2) (.slice B3 q3 e3)
              have HD9' : Hid (NdT (fun b => z ≤ b) ((((World.setCell wM4 ⟨tb, 0, none⟩ (.int .i64 q.kind)).setCell ⟨tb, 1, none⟩ (.slice B1 q1 e1)).setCell ⟨tb, 2, none⟩ (.slice B2 q2 e2)).setCell ⟨tb, 3, none⟩ (.slice B3 q3 e3)) B1 B2 B3 q) := Lib.hid ((hC4).keep fun b hb => ⟨Nat.le_trans HZL.out hb.1, other4 (by have h1 := hb.1; have h2 := hb.2; have h4 := HTB.out; have h5 := HZ8.out; have h6 := HZC.out; have h7 := HS3.out; omega) _ _ _ _⟩)
              clear f0 f1 f2 f3 d0 d1 d2 d3
              generalize hw9 : World.setCell (World.setCell (World.setCell (World.setCell wM4 ⟨tb, 0, none⟩ (.int .i64 q.kind)) ⟨tb, 1, none⟩ (.slice B1 q1 e1)) ⟨tb, 2, none⟩ (.slice B2 q2 e2)) ⟨tb, 3, none⟩ (.slice B3 q3 e3) = wM9 at *
              have hM9 := hM9'
              clear hw9 hM9'
              refine wpR_take (belowOrd z) (i := 10) (v := ?vf26) rfl (by kernel_rfl) (by kernel_rfl) (by kernel_rfl) (fun _ _ _ h => h) (by rfl) ?hf26 ?rf26
              case hf26 => (intro wg hSw; go_simp <;> with_reducible rfl)
              simp only [Act.put, List.setIfInBounds_toArray, List.set_cons_zero, List.set_cons_succ]
              refine wpR_done (by kernel_rfl) ?_
              have HGT := Lib.hid (HG2.out.trans (HGW0.out.trans HG9'.out))
              have t0 := HB9'.out.at0
              have t1 := HB9'.out.at1
              have t2 := HB9'.out.at2
              have t3 := HB9'.out.at3
              clear b0 b1 b2 b3 HBK
              go_wp2
              go_ret
              have HZT := HGT.out.size
              have hnl := node_litT (z := w.heap.size) (e1 := e1) (e2 := e2) (e3 := e3) HQ1.out HQ2.out HQ3.out HZT (HD9'.out.lt.keep fun b hb => ⟨⟨by have h1 := hb.1; have h2 := HG2.out.size; have h3 := HZW.out; omega, hb.2⟩, rfl⟩)
              rw [HFE.out]
              exact ⟨_, 1, rfl, Nat.le_refl _, hnl, HGT.out.trans (grow_new _ _)⟩
          · refine wpR_op (i := 8) rfl (by rfl) (fun K hK => ?_)
            go_simp
            refine hK.out _ _ (Below.mono (grow_new _ _) (by rw [← HZ0.out]; exact ((((belowOrd z)).refl W0)).size)) ?_
            clear hK K
            try simp only [Act.put, List.setIfInBounds_toArray, List.set_cons_zero, List.set_cons_succ]
            obtain ⟨tb, htb⟩ : ∃ tb, (W0).heap.size = tb := ⟨_, rfl⟩
            have HTB := Lib.hid htb
            have hbs := boxN_new W0 0 none 0 0 none 0 0 none 0 0
            have hgs := grow_new W0 (.cells #[.int .i64 0, .slice none 0 0, .slice none 0 0, .slice none 0 0] 30)
            have hsz : (World.alloc W0 (.cells #[.int .i64 0, .slice none 0 0, .slice none 0 0, .slice none 0 0] 30)).heap.size = tb + 1 := by rw [← htb]; simp
            rw [htb] at hbs ⊢
            have HTL : Hid (z ≤ tb) := Lib.hid (by rw [← HZ0.out, ← htb]; exact ((((belowOrd z)).refl W0)).size)
            generalize hwM8 : World.alloc W0 (.cells #[.int .i64 0, .slice none 0 0, .slice none 0 0, .slice none 0 0] 30) = wM8 at *
            have hC8 : BoxN wM8 tb 0 none 0 0 none 0 0 none 0 0 := hbs
            have hN8 : Grow W0 wM8 := hgs
            have hM8 : Below z W0 wM8 := Below.mono hgs (by rw [← HZ0.out]; exact ((((belowOrd z)).refl W0)).size)
            have HZ8 := Lib.hid hsz
            clear hwM8 htb hbs hgs hsz
            refine wpR_one (i := 3) (by kernel_rfl) ?_
            refine wpR_op (i := 3) rfl (by rfl) (fun K hK => ?_)
            go_simp
            refine (HRV.out wM8 (HNW.out.grow (grow_z HZ0.out (((belowOrd z)).trans (((belowOrd z)).refl W0) hM8)))).mono ?_
            rintro e wM3 ⟨AV, cV, rfl, -, hv3, hN3⟩
            rw [HNV.out]
            have hM3 : Below z wM8 wM3 := Below.mono hN3 (by rw [← HZ0.out]; exact ((((belowOrd z)).trans (((belowOrd z)).refl W0) hM8)).size)
            have hC3 : Decs wM3 wM3.heap.size AV vs := hv3.decs
            have HS3 := Lib.hid hN3.size
            clear hv3
            refine hK.out _ _ hM3 ?_
            clear hK K
            try simp only [Act.put, List.setIfInBounds_toArray, List.set_cons_zero, List.set_cons_succ]
            refine wpR_one (i := 4) (by kernel_rfl) ?_
            refine wpR_op (i := 4) rfl (by rfl) (fun K hK => ?_)
            go_simp
            obtain ⟨zc, hzc⟩ : ∃ zc, (wM3).heap.size = zc := ⟨_, rfl⟩
            have HZC := Lib.hid hzc
            have HZL : Hid (z ≤ zc) := Lib.hid (by rw [← HZ0.out, ← hzc]; exact ((((belowOrd z)).trans (((belowOrd z)).trans (((belowOrd z)).refl W0) hM8) hM3)).size)
            refine (HRN.out AV cV wM3 ((HNW.out.grow (grow_z HZ0.out (((belowOrd z)).trans (((belowOrd z)).trans (((belowOrd z)).refl W0) hM8) hM3))).1) hC3).mono ?_
            clear hzc
            rintro e wM4 ⟨hN4, v, rfl, B1, e1, B2, e2, B3, e3, rfl, m1, m2, m3⟩
            have hM4 : Below z wM3 wM4 := Below.mono hN4 (by rw [HZC.out]; exact HZL.out)
            have hC4 : NdT (fun b => zc ≤ b ∧ b < wM4.heap.size) wM4 B1 B2 B3 q := by
              rw [HZC.out] at m1 m2 m3
              exact NdT.lt ⟨m1, m2, m3⟩
            obtain ⟨q1, hq1⟩ : ∃ q1, q.shp.length = q1 := ⟨_, rfl⟩
            obtain ⟨q2, hq2⟩ : ∃ q2, q.ints.length = q2 := ⟨_, rfl⟩
            obtain ⟨q3, hq3⟩ : ∃ q3, q.decs.length = q3 := ⟨_, rfl⟩
            have HQ1 := Lib.hid hq1
            have HQ2 := Lib.hid hq2
            have HQ3 := Lib.hid hq3
            rw [hq1, hq2, hq3]
            clear hq1 hq2 hq3 m1 m2 m3
            refine hK.out _ _ hM4 ?_
            clear hK K
            try simp only [Act.put, List.setIfInBounds_toArray, List.set_cons_zero, List.set_cons_succ]
            refine wpR_take (belowOrd z) (i := 5) (v := ?vf27) rfl (by kernel_rfl) (by kernel_rfl) (by kernel_rfl) (fun _ _ _ h => h) (by rfl) ?hf27 ?rf27
            case hf27 => (intro wg hSw; go_simp <;> with_reducible rfl)
            simp only [Act.put, List.setIfInBounds_toArray, List.set_cons_zero, List.set_cons_succ]
            refine wpR_take (belowOrd z) (i := 6) (v := ?vf28) rfl (by kernel_rfl) (by kernel_rfl) (by kernel_rfl) (fun _ _ _ h => h) (by rfl) ?hf28 ?rf28
            case hf28 => (intro wg hSw; go_simp <;> with_reducible rfl)
            simp only [Act.put, List.setIfInBounds_toArray, List.set_cons_zero, List.set_cons_succ]
            refine wpR_take (belowOrd z) (i := 7) (v := ?vf29) rfl (by kernel_rfl) (by kernel_rfl) (by kernel_rfl) (fun _ _ _ h => h) (by rfl) ?hf29 ?rf29
            case hf29 => (intro wg hSw; go_simp <;> with_reducible rfl)
            simp only [Act.put, List.setIfInBounds_toArray, List.set_cons_zero, List.set_cons_succ]
            refine wpR_one (i := 9) (by kernel_rfl) ?_
            refine wpR_op (i := 9) rfl (by rfl) (fun K hK => ?_)
            have HBB := Lib.hid ((hC8.grow hN3).grow hN4)
            have f0 := HBB.out.froz 0
            have f1 := HBB.out.froz 1
            have f2 := HBB.out.froz 2
            have f3 := HBB.out.froz 3
            have d0 := HBB.out.at0
            have d1 := HBB.out.at1
            have d2 := HBB.out.at2
            have d3 := HBB.out.at3
            go_simp
            refine hK.out _ _ (below_put4 HTL.out _ _ _ _) ?_
            clear hK K
            try simp only [Act.put, List.setIfInBounds_toArray, List.set_cons_zero, List.set_cons_succ]
            have HB9' := Lib.hid (HBB.out.store q.kind B1 B2 B3 q1 e1 q2 e2 q3 e3)
            have HG9' : Hid (Grow W0 ((((World.setCell wM4 ⟨tb, 0, none⟩ (.int .i64 q.kind)).setCell ⟨tb, 1, none⟩ (.slice B1 q1 e1)).setCell ⟨tb, 2, none⟩ (.slice B2 q2 e2)).setCell ⟨tb, 3, none⟩ (.slice B3 q3 e3))) := Lib.hid (grow_z HZ0.out (Below.trans (((belowOrd z)).trans (((belowOrd z)).trans (((belowOrd z)).trans (((belowOrd z)).refl W0) hM8) hM3) hM4) (below_put4 HTL.out _ _ _ _)))
            have hM9' := below_put4 (w := wM4) HTL.out (.int .i64 q.kind) (.slice B1 q1 e1) (.slice B2 q2 e2) (.slice B3 q3 e3)
            have HD9' : Hid (NdT (fun b => z ≤ b) ((((World.setCell wM4 ⟨tb, 0, none⟩ (.int .i64 q.kind)).setCell ⟨tb, 1, none⟩ (.slice B1 q1 e1)).setCell ⟨tb, 2, none⟩ (.slice B2 q2 e2)).setCell ⟨tb, 3, none⟩ (.slice B3 q3 e3)) B1 B2 B3 q) := Lib.hid ((hC4).keep fun b hb => ⟨Nat.le_trans HZL.out hb.1, other4 (by have h1 := hb.1; have h2 := hb.2; have h4 := HTB.out; have h5 := HZ8.out; have h6 := HZC.out; have h7 := HS3.out; omega) _ _ _ _⟩)
            clear f0 f1 f2 f3 d0 d1 d2 d3
            generalize hw9 : World.setCell (World.setCell (World.setCell (World.setCell wM4 ⟨tb, 0, none⟩ (.int .i64 q.kind)) ⟨tb, 1, none⟩ (.slice B1 q1 e1)) ⟨tb, 2, none⟩ (.slice B2 q2 e2)) ⟨tb, 3, none⟩ (.slice B3 q3 e3) = wM9 at *
            have hM9 := hM9'
            clear hw9 hM9'
            refine wpR_take (belowOrd z) (i := 10) (v := ?vf30) rfl (by kernel_rfl) (by kernel_rfl) (by kernel_rfl) (fun _ _ _ h => h) (by rfl) ?hf30 ?rf30
            case hf30 => (intro wg hSw; go_simp <;> with_reducible rfl)
            simp only [Act.put, List.setIfInBounds_toArray, List.set_cons_zero, List.set_cons_succ]
            refine wpR_done (by kernel_rfl) ?_
            have HGT := Lib.hid (HG2.out.trans (HGW0.out.trans HG9'.out))
            have t0 := HB9'.out.at0
            have t1 := HB9'.out.at1
            have t2 := HB9'.out.at2
            have t3 := HB9'.out.at3
            clear b0 b1 b2 b3 HBK
            go_wp2
            go_ret
            have HZT := HGT.out.size
            have hnl := node_litT (z := w.heap.size) (e1 := e1) (e2 := e2) (e3 := e3) HQ1.out HQ2.out HQ3.out HZT (HD9'.out.lt.keep fun b hb => ⟨⟨by have h1 := hb.1; have h2 := HG2.out.size; have h3 := HZW.out; omega, hb.2⟩, rfl⟩)
            rw [HFE.out]
            exact ⟨_, 1, rfl, Nat.le_refl _, hnl, HGT.out.trans (grow_new _ _)⟩
        · exact absurd ⟨h5, hk0⟩ HNX.out
end Go.Proofs.Ytcljpcbgokgcdaa
