/-
  What tight.fold comes to: the tight form of a first node and tight kids, if it is one node.
-/
import Derived.Test.YtcljpcbgokgcdaaJoin
import Derived.Test.YtcljpcbgokgcdaaTightA
namespace Go.Proofs.Ytcljpcbgokgcdaa
open Go.RowKit Go.Lib
set_option linter.unusedSimpArgs false
set_option linter.unusedVariables false

theorem vals_tot (ks : List Nd) : (valsK ks).length = tot ks := by
  induction ks with
  | nil => rfl
  | cons n ks ih =>
    simp only [valsK, List.flatMap_cons, List.length_append, tot] at ih ⊢
    rw [ih]
    simp [valsN]
theorem ints_tot (ks : List Nd) : (intsK ks).length ≤ tot ks := by
  induction ks with
  | nil => exact Nat.le_refl _
  | cons n ks ih =>
    simp only [intsK, List.flatMap_cons, List.length_append, tot] at ih ⊢
    omega
theorem vals_in {ks : List Nd} (hf : Fits ks) (hv : Vals ks) : ∀ x ∈ valsK ks, In x.1 ∧ In x.2 := by
  intro x hx
  obtain ⟨n, hn, hx⟩ := List.mem_flatMap.1 hx
  rcases List.mem_append.1 hx with hx | hx
  · obtain ⟨y, hy, rfl⟩ := List.mem_map.1 hx
    exact ⟨(of_facts (hv n hn y hy)).1, (of_facts (hv n hn y hy)).2.1⟩
  · exact (hf n hn).2.2.2.2 x hx
theorem NumsT.off {T : Nat → Prop} {w : World} {A : Option Addr} {xs : List Int} (h : NumsT T w A xs) {q : Nat} (hq : w.heap.size ≤ q) : NumsT (fun b => T b ∧ ¬ b = q) w A xs := h.lt.keep fun b hb => ⟨⟨hb.1, by have := hb.2; omega⟩, rfl⟩
theorem DecsT.off {T : Nat → Prop} {w : World} {A : Option Addr} {xs : List (Int × Int)} (h : DecsT T w A xs) {q : Nat} (hq : w.heap.size ≤ q) : DecsT (fun b => T b ∧ ¬ b = q) w A xs := h.lt.keep fun b hb => ⟨⟨hb.1, by have := hb.2; omega⟩, rfl⟩

theorem numbers_one (n : Nd) (b c nv : Nat) (w : World) (hl : (valsN n).length = nv) (hb : nv ≤ 1100000) (hv : ∀ x ∈ n.ints, In x) (hns : Nodes w w.heap.size (some ⟨b, 0, none⟩) [n]) :
    Calls Try.prog 77 #[.slice (some ⟨b, 0, none⟩) 1 c] w (fun e w' => ∃ A k, e = .returned (.slice A nv k) ∧ NewD w.heap.size A (valsN n) w' ∧ Grow w w') := by
  have e : valsK [n] = valsN n := by simp [valsK]
  refine (numbers_any (some ⟨b, 0, none⟩) 1 c [n] w rfl (by omega) (by rw [e]; omega) (fun m hm => by rw [List.mem_singleton.1 hm]; exact hv) hns).mono ?_
  rintro x w' ⟨A, k, h1, _, h2, h3⟩
  rw [e] at h1 h2
  rw [hl] at h1
  exact ⟨A, k, h1, h2, h3⟩

set_option maxRecDepth 10000 in
set_option maxHeartbeats 3200000 in
theorem fold_any (T : Nat → Prop) (n : Nd) (A1 A2 A3 : Option Addr) (c1 c2 c3 : Nat) (A : Option Addr) (m c : Nat) (ks : List Nd) (w : World) (hT : ∀ b, w.heap.size ≤ b → T b) (hok : okB n = true) (hfn : Fit n) (hin : ∀ x ∈ n.ints, In x)
    (h1 : NumsT T w A1 n.shp) (h2 : NumsT T w A2 n.ints) (h3 : DecsT T w A3 n.decs) (hm : ks.length = m) (hks : Fine ks) (htot : tot ks ≤ 1100000) (hns : Nodes w w.heap.size A ks) :
    Calls Try.prog 68 #[.agg #[.int .i64 n.kind, .slice A1 n.shp.length c1, .slice A2 n.ints.length c2, .slice A3 n.decs.length c3], .slice A m c] w (OneP T (foldO n ks) w) := by
  obtain ⟨nb, hnb⟩ : ∃ nb, w.heap.size = nb := ⟨_, rfl⟩
  have HVO := Lib.hid (fun hk => vals_ok hok hk hfn hin)
  have HFO : Hid (foldO n ks = if n.kind = 3 then some n else if n.kind = 5 then joinO n.shp ks else some (leastN n.shp (valsN n))) := Lib.hid rfl
  have HVX : Hid (valsK [n] = valsN n) := Lib.hid (by simp [valsK])
  have HM := Lib.hid hm
  have HKS := Lib.hid hks
  have HTOT := Lib.hid htot
  have HNS := Lib.hid hns
  have HT := Lib.hid hT
  have HI := Lib.hid hin
  have HNB := Lib.hid hnb
  have M1 := Lib.hid (h1.off (q := nb + 1) (by omega))
  have M2 := Lib.hid (h2.off (q := nb + 1) (by omega))
  have M3 := Lib.hid (h3.off (q := nb + 1) (by omega))
  have HSL : Hid (n.shp.length = n.shp.length) := Lib.hid rfl
  clear hok hfn hm hks htot hns hT hin h1 h2 h3
  obtain ⟨k, sh, xs, ds⟩ := n
  dsimp only at *
  obtain ⟨l1, hl1⟩ : ∃ l1, sh.length = l1 := ⟨_, rfl⟩
  obtain ⟨l2, hl2⟩ : ∃ l2, xs.length = l2 := ⟨_, rfl⟩
  obtain ⟨l3, hl3⟩ : ∃ l3, ds.length = l3 := ⟨_, rfl⟩
  have HL1 := Lib.hid hl1
  have HL2 := Lib.hid hl2
  have HL3 := Lib.hid hl3
  rw [hl1, hl2, hl3]
  clear hl1 hl2 hl3 HSL
  let w2 := (w.alloc (.cells #[.int .i64 k, .slice A1 l1 c1, .slice A2 l2 c2, .slice A3 l3 c3] 30)).alloc (.cells #[.int .i64 0, .slice none 0 0, .slice none 0 0, .slice none 0 0] 30)
  have hg2 : Grow w w2 := grow_new2 _ _ _
  have hs1 : (w.alloc (.cells #[.int .i64 k, .slice A1 l1 c1, .slice A2 l2 c2, .slice A3 l3 c3] 30)).heap.size = nb + 1 := by simp [hnb]
  have hbn : BoxN w2 nb k A1 l1 c1 A2 l2 c2 A3 l3 c3 := by
    rw [← hnb]
    exact (boxN_new w k A1 l1 c1 A2 l2 c2 A3 l3 c3).grow (grow_new _ _)
  have hbr : BoxN w2 (nb + 1) 0 none 0 0 none 0 0 none 0 0 := by
    have h := boxN_new (w.alloc (.cells #[.int .i64 k, .slice A1 l1 c1, .slice A2 l2 c2, .slice A3 l3 c3] 30)) 0 none 0 0 none 0 0 none 0 0
    rw [hs1] at h
    exact h
  have HG2 := Lib.hid hg2
  have HBN := Lib.hid hbn
  have HR2 := Lib.hid hbr
  have n0 := hbn.at0
  have n1 := hbn.at1
  have n2 := hbn.at2
  have n3 := hbn.at3
  clear hg2 hbn
  have hbx := hbr
  have f0 := hbx.froz 0
  have f1 := hbx.froz 1
  have f2 := hbx.froz 2
  have f3 := hbx.froz 3
  have d0 := hbx.at0
  have d1 := hbx.at1
  have d2 := hbx.at2
  have d3 := hbx.at3
  clear hbx hbr
  by_cases k3 : k = 3
  · subst k3
    have HO : Hid (foldO ⟨3, sh, xs, ds⟩ ks = some ⟨3, sh, xs, ds⟩) := Lib.hid (by rw [HFO.out]; exact if_pos rfl)
    clear HFO HVO
    go_enter Try.func68, Try.ntmps68
    go_wp2
    have hb := boxN_new (w.alloc (.cells #[.int .i64 3, .slice A1 l1 c1, .slice A2 l2 c2, .slice A3 l3 c3] 30)) 3 A1 l1 c1 A2 l2 c2 A3 l3 c3
    rw [hs1] at hb
    have hg := grow_new2 w (.cells #[.int .i64 3, .slice A1 l1 c1, .slice A2 l2 c2, .slice A3 l3 c3] 30) (.cells #[.int .i64 3, .slice A1 l1 c1, .slice A2 l2 c2, .slice A3 l3 c3] 30)
    have hkp : ∀ b, (T b ∧ ¬ b = nb + 1) ∧ b < w.heap.size → T b ∧ w.heap[b]? = w.heap[b]? := fun b hb => ⟨hb.1.1, rfl⟩
    refine bodyPost_ret (v := .tuple #[.agg #[.int .i64 3, .slice A1 l1 c1, .slice A2 l2 c2, .slice A3 l3 c3], .bool true]) (by simp [results, Try.results68, go_sem, hb.at0, hb.at1, hb.at2, hb.at3]) rfl ?_
    exact OneP.yes HO.out hg ⟨A1, c1, A2, c2, A3, c3, by rw [HL1.out, HL2.out, HL3.out], (M1.out.lt.keep hkp).grow hg, (M2.out.lt.keep hkp).grow hg, (M3.out.lt.keep hkp).grow hg⟩
  have k3' : (k == 3) = false := by simpa using k3
  by_cases k5 : k = 5
  · subst k5
    have HO : Hid (foldO ⟨5, sh, xs, ds⟩ ks = joinO sh ks) := Lib.hid (by rw [HFO.out]; rfl)
    have HJ := Lib.hid (join_any (fun b => T b ∧ ¬ b = nb + 1) A1 l1 c1 sh A m c ks w2 (fun b hb => ⟨HT.out b (Nat.le_trans HG2.out.size hb), by have := HR2.out.lt; omega⟩) HL1.out (M1.out.grow HG2.out) HM.out (by rw [← HM.out]; exact HKS.out.1) HKS.out.2.2 (by rw [vals_tot]; exact HTOT.out) (Nat.le_trans (ints_tot ks) HTOT.out) (vals_in HKS.out.2.1 HKS.out.2.2) (HNS.out.grow HG2.out))
    clear HFO HVO f0 f1 f2 f3 d0 d1 d2 d3
    generalize joinO sh ks = o at *
    go_enter Try.func68, Try.ntmps68
    go_wp2_with fail
    refine (HJ.out).mono ?_
    rintro e w3 ⟨hw3, he⟩
    have HG3 := Lib.hid (HG2.out.trans hw3)
    have HR3 := Lib.hid (HR2.out.grow hw3)
    clear hw3 HJ n0 n1 n2 n3
    cases o with
    | none =>
      subst he
      have hbx := HR3.out
      have f0 := hbx.froz 0
      have f1 := hbx.froz 1
      have f2 := hbx.froz 2
      have f3 := hbx.froz 3
      have d0 := hbx.at0
      have d1 := hbx.at1
      have d2 := hbx.at2
      have d3 := hbx.at3
      clear hbx
      go_wp2
      have hle : w.heap.size ≤ nb + 1 := by rw [HNB.out]; exact Nat.le_succ _
      have hb := HR3.out.store 0 none none none 0 0 0 0 0 0
      have hg := (((HG3.out.put hle 0 (.int .i64 0)).put hle 1 (.slice none 0 0)).put hle 2 (.slice none 0 0)).put hle 3 (.slice none 0 0)
      have hkp : ∀ b, (T b ∧ ¬ b = nb + 1) ∧ b < w3.heap.size → T b ∧ ((((w3.setCell ⟨nb + 1, 0, none⟩ (.int .i64 0)).setCell ⟨nb + 1, 1, none⟩ (.slice none 0 0)).setCell ⟨nb + 1, 2, none⟩ (.slice none 0 0)).setCell ⟨nb + 1, 3, none⟩ (.slice none 0 0)).heap[b]? = w3.heap[b]? := fun b hb => ⟨hb.1.1, (kept_store (w := w3) (b := nb + 1) _ _ _ _).block b hb.2 hb.1.2⟩
      refine bodyPost_ret (v := .tuple #[.agg #[.int .i64 0, .slice none 0 0, .slice none 0 0, .slice none 0 0], .bool false]) (by simp [results, Try.results68, go_sem, hb.at0, hb.at1, hb.at2, hb.at3]) rfl ?_
      exact OneP.no HO.out hg
    | some q =>
      obtain ⟨v, rfl, B1, e1, B2, e2, B3, e3, rfl, m1, m2, m3⟩ := he
      have P1 := Lib.hid m1
      have P2 := Lib.hid m2
      have P3 := Lib.hid m3
      clear m1 m2 m3
      obtain ⟨q1, hq1⟩ : ∃ q1, q.shp.length = q1 := ⟨_, rfl⟩
      obtain ⟨q2, hq2⟩ : ∃ q2, q.ints.length = q2 := ⟨_, rfl⟩
      obtain ⟨q3, hq3⟩ : ∃ q3, q.decs.length = q3 := ⟨_, rfl⟩
      have HLE := Lib.hid (show (Value.agg #[.int .i64 q.kind, .slice B1 q1 e1, .slice B2 q2 e2, .slice B3 q3 e3]) = .agg #[.int .i64 q.kind, .slice B1 q.shp.length e1, .slice B2 q.ints.length e2, .slice B3 q.decs.length e3] by rw [hq1, hq2, hq3])
      rw [hq1, hq2, hq3]
      clear hq1 hq2 hq3
      have hbx := HR3.out
      have f0 := hbx.froz 0
      have f1 := hbx.froz 1
      have f2 := hbx.froz 2
      have f3 := hbx.froz 3
      have d0 := hbx.at0
      have d1 := hbx.at1
      have d2 := hbx.at2
      have d3 := hbx.at3
      clear hbx
      go_wp2
      have hle : w.heap.size ≤ nb + 1 := by rw [HNB.out]; exact Nat.le_succ _
      have hb := HR3.out.store q.kind B1 B2 B3 q1 e1 q2 e2 q3 e3
      have hg := (((HG3.out.put hle 0 (.int .i64 q.kind)).put hle 1 (.slice B1 q1 e1)).put hle 2 (.slice B2 q2 e2)).put hle 3 (.slice B3 q3 e3)
      have hkp : ∀ b, (T b ∧ ¬ b = nb + 1) ∧ b < w3.heap.size → T b ∧ ((((w3.setCell ⟨nb + 1, 0, none⟩ (.int .i64 q.kind)).setCell ⟨nb + 1, 1, none⟩ (.slice B1 q1 e1)).setCell ⟨nb + 1, 2, none⟩ (.slice B2 q2 e2)).setCell ⟨nb + 1, 3, none⟩ (.slice B3 q3 e3)).heap[b]? = w3.heap[b]? := fun b hb => ⟨hb.1.1, (kept_store (w := w3) (b := nb + 1) _ _ _ _).block b hb.2 hb.1.2⟩
      refine bodyPost_ret (v := .tuple #[.agg #[.int .i64 q.kind, .slice B1 q1 e1, .slice B2 q2 e2, .slice B3 q3 e3], .bool true]) (by simp [results, Try.results68, go_sem, hb.at0, hb.at1, hb.at2, hb.at3]) rfl ?_
      exact OneP.yes HO.out hg ⟨B1, e1, B2, e2, B3, e3, HLE.out, P1.out.lt.keep hkp, P2.out.lt.keep hkp, P3.out.lt.keep hkp⟩
  have k5' : (k == 5) = false := by simpa using k5
  have HO : Hid (foldO ⟨k, sh, xs, ds⟩ ks = some (leastN sh (valsN ⟨k, sh, xs, ds⟩))) := Lib.hid (by rw [HFO.out, if_neg k3, if_neg k5])
  obtain ⟨_, hvi, hvl, _⟩ := HVO.out k3
  have HVI := Lib.hid hvi
  have HVL := Lib.hid hvl
  obtain ⟨nv, hnv⟩ : ∃ nv, (valsN ⟨k, sh, xs, ds⟩).length = nv := ⟨_, rfl⟩
  have HNV := Lib.hid hnv
  have hnvb : nv ≤ 1100000 := by rw [← hnv]; exact HVL.out
  have HNO := Lib.hid (fun (W : World) (b : Nat) (h : Nodes W W.heap.size (some ⟨b, 0, none⟩) [⟨k, sh, xs, ds⟩]) => numbers_one ⟨k, sh, xs, ds⟩ b 1 nv W hnv hnvb HI.out h)
  clear HFO HVO hvi hvl f0 f1 f2 f3 d0 d1 d2 d3 k3 k5 HVX hnv
  generalize valsN ⟨k, sh, xs, ds⟩ = vs at *
  go_enter Try.func68, Try.ntmps68
  go_wp2
  refine wp_region_R ((Kept (fun k => k = nb + 1))) (n := 8) rfl (by kernel_rfl) ?_
  intro W0 hW0e hW0
  have HW0 := Lib.hid hW0
  have HB0 := Lib.hid (HBN.out.grow HW0.out)
  have HBK : Hid (∀ wg, Kept (fun k => k = nb + 1) W0 wg → BoxN wg nb k A1 l1 c1 A2 l2 c2 A3 l3 c3) := Lib.hid (fun wg h => (h.block nb HB0.out.lt (by show ¬ nb = nb + 1; omega)).trans HB0.out)
  have b0 : ∀ wg, Kept (fun k => k = nb + 1) W0 wg → wg.cell? ⟨nb, 0, none⟩ = some (.int .i64 k) := fun wg h => (HBK.out wg h).at0
  have b1 : ∀ wg, Kept (fun k => k = nb + 1) W0 wg → wg.cell? ⟨nb, 1, none⟩ = some (.slice A1 l1 c1) := fun wg h => (HBK.out wg h).at1
  have b2 : ∀ wg, Kept (fun k => k = nb + 1) W0 wg → wg.cell? ⟨nb, 2, none⟩ = some (.slice A2 l2 c2) := fun wg h => (HBK.out wg h).at2
  have b3 : ∀ wg, Kept (fun k => k = nb + 1) W0 wg → wg.cell? ⟨nb, 3, none⟩ = some (.slice A3 l3 c3) := fun wg h => (HBK.out wg h).at3
  have HGW := Lib.hid (HG2.out.trans HW0.out)
  have HRW := Lib.hid (HR2.out.grow HW0.out)
  clear hW0e
  refine wpR_take (keptOrd (fun k => k = nb + 1)) (i := 0) (v := ?vf1) rfl (by kernel_rfl) (by kernel_rfl) (by kernel_rfl) (fun _ _ _ h => h) (by rfl) ?hf1 ?rf1
  case hf1 => (intro wg hSw; go_simp <;> with_reducible rfl)
  simp only [Act.put, List.setIfInBounds_toArray, List.set_cons_zero, List.set_cons_succ]
  refine wpR_take (keptOrd (fun k => k = nb + 1)) (i := 1) (v := ?vf2) rfl (by kernel_rfl) (by kernel_rfl) (by kernel_rfl) (fun _ _ _ h => h) (by rfl) ?hf2 ?rf2
  case hf2 => (intro wg hSw; go_simp <;> with_reducible rfl)
  simp only [Act.put, List.setIfInBounds_toArray, List.set_cons_zero, List.set_cons_succ]
  refine wpR_take (keptOrd (fun k => k = nb + 1)) (i := 2) (v := ?vf3) rfl (by kernel_rfl) (by kernel_rfl) (by kernel_rfl) (fun _ _ _ h => h) (by rfl) ?hf3 ?rf3
  case hf3 => (intro wg hSw; go_simp <;> with_reducible rfl)
  simp only [Act.put, List.setIfInBounds_toArray, List.set_cons_zero, List.set_cons_succ]
  refine wpR_one (i := 3) (by kernel_rfl) ?_
  refine wpR_op (i := 3) rfl (by rfl) (fun K hK => ?_)
  go_simp
  refine hK.out _ _ (Kept.of_grow (grow_new _ _)) ?_
  clear hK K
  try simp only [Act.put, List.setIfInBounds_toArray, List.set_cons_zero, List.set_cons_succ]
  have hnd3 := node_lit W0 k A1 l1 c1 A2 l2 c2 A3 l3 c3 ⟨k, sh, xs, ds⟩ rfl HL1.out HL2.out HL3.out ⟨(M1.out.grow HGW.out).nums, (M2.out.grow HGW.out).nums, (M3.out.grow HGW.out).decs⟩
  obtain ⟨nz, hnz⟩ : ∃ nz, W0.heap.size = nz := ⟨_, rfl⟩
  rw [hnz] at hnd3 ⊢
  generalize hwM3 : World.alloc W0 (Obj.cells #[.int .i64 k, .slice A1 l1 c1, .slice A2 l2 c2, .slice A3 l3 c3] 30) = wM3 at *
  have HN3 := Lib.hid hnd3
  have HG3 : Hid (Grow W0 wM3) := Lib.hid (by rw [← hwM3]; exact grow_new _ _)
  have hM3 : Kept (fun k => k = nb + 1) W0 wM3 := Kept.of_grow HG3.out
  have HGW3 := Lib.hid (HGW.out.trans HG3.out)
  have HRW3 := Lib.hid (HRW.out.grow HG3.out)
  clear hwM3 hnd3 hnz
  refine wpR_one (i := 4) (by kernel_rfl) ?_
  refine wpR_op (i := 4) rfl (by rfl) (fun K hK => ?_)
  go_simp
  refine (HNO.out wM3 nz HN3.out).mono ?_
  rintro e wM4 ⟨A4, c4, rfl, hn4, hg4⟩
  have HGW4 := Lib.hid (HGW3.out.trans hg4)
  have HRW4 := Lib.hid (HRW3.out.grow hg4)
  have HN4 : Hid (DecsT (fun b => T b ∧ ¬ b = nb + 1) wM4 A4 vs) := Lib.hid (hn4.keep fun b hb => ⟨⟨HT.out b (Nat.le_trans HGW3.out.size hb.1), by have h1 := HRW3.out.lt; have h2 := hb.1; omega⟩, rfl⟩)
  have hM4 : Kept (fun k => k = nb + 1) wM3 wM4 := Kept.of_grow hg4
  clear hn4 hg4 HN3
  refine hK.out _ _ hM4 ?_
  clear hK K
  try simp only [Act.put, List.setIfInBounds_toArray, List.set_cons_zero, List.set_cons_succ]
  refine wpR_one (i := 5) (by kernel_rfl) ?_
  refine wpR_op (i := 5) rfl (by rfl) (fun K hK => ?_)
  go_simp
  refine (least_any (fun b => T b ∧ ¬ b = nb + 1) A1 l1 c1 sh A4 nv c4 vs wM4 (fun b hb => ⟨HT.out b (Nat.le_trans HGW4.out.size hb), by have := HRW4.out.lt; omega⟩) HL1.out (M1.out.grow HGW4.out) HNV.out hnvb HVI.out HN4.out).mono ?_
  rintro e wM5 ⟨v5, rfl, ⟨B1, e1, B2, e2, B3, e3, rfl, m1, m2, m3⟩, hg5⟩
  have HG5 := Lib.hid (HGW4.out.trans hg5)
  have HR5 := Lib.hid (HRW4.out.grow hg5)
  have P1 := Lib.hid m1
  have P2 := Lib.hid m2
  have P3 := Lib.hid m3
  have hM5 : Kept (fun k => k = nb + 1) wM4 wM5 := Kept.of_grow hg5
  clear m1 m2 m3 hg5
  generalize leastN sh vs = q at *
  obtain ⟨q1, hq1⟩ : ∃ q1, q.shp.length = q1 := ⟨_, rfl⟩
  obtain ⟨q2, hq2⟩ : ∃ q2, q.ints.length = q2 := ⟨_, rfl⟩
  obtain ⟨q3, hq3⟩ : ∃ q3, q.decs.length = q3 := ⟨_, rfl⟩
  have HLE := Lib.hid (show (Value.agg #[.int .i64 q.kind, .slice B1 q1 e1, .slice B2 q2 e2, .slice B3 q3 e3]) = .agg #[.int .i64 q.kind, .slice B1 q.shp.length e1, .slice B2 q.ints.length e2, .slice B3 q.decs.length e3] by rw [hq1, hq2, hq3])
  rw [hq1, hq2, hq3]
  clear hq1 hq2 hq3 b0 b1 b2 b3
  have hbx := HR5.out
  have f0 := hbx.froz 0
  have f1 := hbx.froz 1
  have f2 := hbx.froz 2
  have f3 := hbx.froz 3
  have d0 := hbx.at0
  have d1 := hbx.at1
  have d2 := hbx.at2
  have d3 := hbx.at3
  clear hbx
  refine hK.out _ _ hM5 ?_
  clear hK K
  try simp only [Act.put, List.setIfInBounds_toArray, List.set_cons_zero, List.set_cons_succ]
  refine wpR_one (i := 6) (by kernel_rfl) ?_
  refine wpR_op (i := 6) rfl (by rfl) (fun K hK => ?_)
  go_simp
  refine hK.out _ _ (kept_store _ _ _ _) ?_
  clear hK K
  try simp only [Act.put, List.setIfInBounds_toArray, List.set_cons_zero, List.set_cons_succ]
  have hle : w.heap.size ≤ nb + 1 := by rw [HNB.out]; exact Nat.le_succ _
  have hb := HR5.out.store q.kind B1 B2 B3 q1 e1 q2 e2 q3 e3
  have hg := (((HG5.out.put hle 0 (.int .i64 q.kind)).put hle 1 (.slice B1 q1 e1)).put hle 2 (.slice B2 q2 e2)).put hle 3 (.slice B3 q3 e3)
  have hkp : ∀ b, (T b ∧ ¬ b = nb + 1) ∧ b < wM5.heap.size → T b ∧ ((((wM5.setCell ⟨nb + 1, 0, none⟩ (.int .i64 q.kind)).setCell ⟨nb + 1, 1, none⟩ (.slice B1 q1 e1)).setCell ⟨nb + 1, 2, none⟩ (.slice B2 q2 e2)).setCell ⟨nb + 1, 3, none⟩ (.slice B3 q3 e3)).heap[b]? = wM5.heap[b]? := fun b hb => ⟨hb.1.1, (kept_store (w := wM5) (b := nb + 1) _ _ _ _).block b hb.2 hb.1.2⟩
  have HB6 := Lib.hid hb
  have HG6 := Lib.hid hg
  have HK6 := Lib.hid hkp
  have N1 := Lib.hid (P1.out.lt.keep hkp)
  have N2 := Lib.hid (P2.out.lt.keep hkp)
  have N3 := Lib.hid (P3.out.lt.keep hkp)
  clear hb hg hkp HK6 f0 f1 f2 f3 d0 d1 d2 d3
  generalize hw6 : World.setCell _ _ _ = wM6 at *
  have hM6 : Kept (fun k => k = nb + 1) wM5 wM6 := by rw [← hw6]; exact kept_store _ _ _ _
  clear hw6
  refine wpR_take (keptOrd (fun k => k = nb + 1)) (i := 7) (v := ?vf4) rfl (by kernel_rfl) (by kernel_rfl) (by kernel_rfl) (fun _ _ _ h => h) (by rfl) ?hf4 ?rf4
  case hf4 => (intro wg hSw; go_simp <;> with_reducible rfl)
  simp only [Act.put, List.setIfInBounds_toArray, List.set_cons_zero, List.set_cons_succ]
  refine wpR_done (by kernel_rfl) ?_
  go_wp2
  refine bodyPost_ret (v := .tuple #[.agg #[.int .i64 q.kind, .slice B1 q1 e1, .slice B2 q2 e2, .slice B3 q3 e3], .bool true]) (by simp [results, Try.results68, go_sem, HB6.out.at0, HB6.out.at1, HB6.out.at2, HB6.out.at3]) rfl ?_
  exact OneP.yes HO.out HG6.out ⟨B1, e1, B2, e2, B3, e3, HLE.out, N1.out, N2.out, N3.out⟩
end Go.Proofs.Ytcljpcbgokgcdaa
