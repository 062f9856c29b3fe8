/-
  The small case of the laws comes out right.
-/
import Derived.Test.YtcljpcbgokgcdaaSmallT
import Derived.Deep.CutBlock
import Derived.Deep.DeepCutAuto
namespace Go.Proofs.Ytcljpcbgokgcdaa
open Go.RowKit Go.Lib
set_option linter.unusedSimpArgs false
set_option linter.unusedVariables false

set_option maxRecDepth 10000 in
set_option maxHeartbeats 25600000 in
theorem small_any (w : World) : Calls Try.prog 9 #[] w (Says true w) := by
  obtain ⟨z, hz⟩ : ∃ z, w.heap.size = z := ⟨_, rfl⟩
  let w1 := w.alloc (.cells #[.int .i64 97] 3)
  let w2 := w1.alloc (.cells #[.int .i64 3, .slice none 0 0, .slice (some ⟨z, 0, none⟩) 1 1, .slice none 0 0] 30)
  let w3 := w2.alloc (.cells #[.int .i64 2] 3)
  let w4 := w3.alloc (.cells #[.int .i64 5, .slice (some ⟨z + 2, 0, none⟩) 1 1, .slice none 0 0, .slice none 0 0] 30)
  have hs1 : w1.heap.size = z + 1 := by simp [w1, hz]
  have hs2 : w2.heap.size = z + 2 := by simp [w2, w1, hz]
  have hs3 : w3.heap.size = z + 3 := by simp [w3, w2, w1, hz]
  have g1 : Grow w w1 := grow_new _ _
  have g2 : Grow w1 w2 := grow_new _ _
  have g3 : Grow w2 w3 := grow_new _ _
  have g4 : Grow w3 w4 := grow_new _ _
  have HCH : Hid (BoxN w4 (z + 1) 3 none 0 0 (some ⟨z, 0, none⟩) 1 1 none 0 0) := Lib.hid (by
    have h := boxN_new w1 3 none 0 0 (some ⟨z, 0, none⟩) 1 1 none 0 0
    rw [hs1] at h
    exact (h.grow g3).grow g4)
  have HBX : Hid (BoxN w4 (z + 3) 5 (some ⟨z + 2, 0, none⟩) 1 1 none 0 0 none 0 0) := Lib.hid (by
    have h := boxN_new w3 5 (some ⟨z + 2, 0, none⟩) 1 1 none 0 0 none 0 0
    rw [hs3] at h
    exact h)
  have HCN : Hid (IsNd w4 w4.heap.size none (some ⟨z, 0, none⟩) none ch) := Lib.hid (by
    have h := nums_lit w [97]
    rw [hz] at h
    exact ⟨Nums.none_, ((Nums.grow h g2).grow g3).grow g4, Decs.none_⟩)
  have HXN : Hid (IsNd w4 w4.heap.size (some ⟨z + 2, 0, none⟩) none none bx) := Lib.hid (by
    have h := nums_lit w2 [2]
    rw [hs2] at h
    exact ⟨Nums.grow h g4, Nums.none_, Decs.none_⟩)
  have HG4 := Lib.hid (((g1.trans g2).trans g3).trans g4)
  clear g1 g2 g3 g4 hs1 hs2 hs3
  go_enter Try.func9, Try.ntmps9
  go_upto_region 4 with fail
  obtain ⟨v4, hv4⟩ : ∃ v4, v4 = w4 := ⟨_, rfl⟩
  rw [← hv4] at HCH HBX HCN HXN HG4
  change Code.wp _ _ _ _ w4
  rw [← hv4]
  clear hv4
  clear hz w4 w3 w2 w1
  go_cut [4, 5] (fun s1 s2 wx => ∃ g, s1 = .slice (some ⟨g, 0, none⟩) 1 1 ∧ s2 = .bool true ∧ Hid (Nodes wx wx.heap.size (some ⟨g, 0, none⟩) z1) ∧ Hid (Grow v4 wx))
  case first =>
    refine wp_region_R Grow (n := 12) rfl (by kernel_rfl) ?_
    intro W0 hW0e hW0
    have HW0 := Lib.hid hW0
    have bc0 : ∀ wg, Grow W0 wg → wg.cell? ⟨z + 3, 0, none⟩ = some (.int .i64 5) := fun wg h => ((HBX.out.grow HW0.out).grow h).at0
    have bc1 : ∀ wg, Grow W0 wg → wg.cell? ⟨z + 3, 1, none⟩ = some (.slice (some ⟨z + 2, 0, none⟩) 1 1) := fun wg h => ((HBX.out.grow HW0.out).grow h).at1
    have bc2 : ∀ wg, Grow W0 wg → wg.cell? ⟨z + 3, 2, none⟩ = some (.slice none 0 0) := fun wg h => ((HBX.out.grow HW0.out).grow h).at2
    have bc3 : ∀ wg, Grow W0 wg → wg.cell? ⟨z + 3, 3, none⟩ = some (.slice none 0 0) := fun wg h => ((HBX.out.grow HW0.out).grow h).at3
    clear hW0e
    refine wpR_take growOrd (i := 0) (v := ?vf1) rfl (by kernel_rfl) (by kernel_rfl) (by kernel_rfl) (fun _ _ _ h => h) (by rfl) ?hf1 ?rf1
    case hf1 => (intro wg hSw; go_simp <;> with_reducible rfl)
    simp only [Act.put, List.setIfInBounds_toArray, List.set_cons_zero, List.set_cons_succ]
    refine wpR_take growOrd (i := 1) (v := ?vf2) rfl (by kernel_rfl) (by kernel_rfl) (by kernel_rfl) (fun _ _ _ h => h) (by rfl) ?hf2 ?rf2
    case hf2 => (intro wg hSw; go_simp <;> with_reducible rfl)
    simp only [Act.put, List.setIfInBounds_toArray, List.set_cons_zero, List.set_cons_succ]
    refine wpR_take growOrd (i := 3) (v := ?vf3) rfl (by kernel_rfl) (by kernel_rfl) (by kernel_rfl) (fun _ _ _ h => h) (by rfl) ?hf3 ?rf3
    case hf3 => (intro wg hSw; go_simp <;> with_reducible rfl)
    simp only [Act.put, List.setIfInBounds_toArray, List.set_cons_zero, List.set_cons_succ]
    refine wpR_one (i := 2) (by kernel_rfl) ?_
    refine wpR_op (i := 2) rfl (by rfl) (fun K hK => ?_)
    go_simp
    refine (tone_any 3 W0).mono ?_
    rintro e wM2 ⟨a2, rfl, hC2, hM2⟩
    refine hK.out _ _ hM2 ?_
    clear hK K
    try simp only [Act.put, List.setIfInBounds_toArray, List.set_cons_zero, List.set_cons_succ]
    refine wpR_one (i := 4) (by kernel_rfl) ?_
    refine wpR_op (i := 4) rfl (by rfl) (fun K hK => ?_)
    go_simp
    refine (tone_any 1 wM2).mono ?_
    rintro e wM4 ⟨a4, rfl, hC4, hM4⟩
    refine hK.out _ _ hM4 ?_
    clear hK K
    try simp only [Act.put, List.setIfInBounds_toArray, List.set_cons_zero, List.set_cons_succ]
    refine wpR_one (i := 5) (by kernel_rfl) ?_
    refine wpR_op (i := 5) rfl (by rfl) (fun K hK => ?_)
    go_simp
    refine hK.out _ _ (grow_new _ _) ?_
    clear hK K
    try simp only [Act.put, List.setIfInBounds_toArray, List.set_cons_zero, List.set_cons_succ]
    generalize hwM5 : World.alloc wM4 (.cells #[.int .i64 5, .slice (some ⟨z + 2, 0, none⟩) 1 1, .slice none 0 0, .slice none 0 0, .int .i64 2, .slice none 0 0, .slice (some ⟨a2, 0, none⟩) 1 1, .slice none 0 0, .int .i64 2, .slice none 0 0, .slice (some ⟨a4, 0, none⟩) 1 1, .slice none 0 0] 30) = wM5
    have hN5 : Grow wM4 wM5 := by rw [← hwM5]; exact grow_new _ _
    have hC5 : Nodes wM5 (wM5).heap.size (some ⟨(wM4).heap.size, 0, none⟩) y1 := by rw [← hwM5]; exact lit3 (w := wM4) (n1 := bx) (n2 := nd1 3) (n3 := nd1 1) [.int .i64 5, .slice (some ⟨z + 2, 0, none⟩) 1 1, .slice none 0 0, .slice none 0 0] [.int .i64 2, .slice none 0 0, .slice (some ⟨a2, 0, none⟩) 1 1, .slice none 0 0] [.int .i64 2, .slice none 0 0, .slice (some ⟨a4, 0, none⟩) 1 1, .slice none 0 0] (raw1 rfl rfl rfl rfl ((HXN.out.grow HW0.out).grow (Grow.trans (Grow.trans (Grow.refl W0) hM2) hM4))) (raw1 rfl rfl rfl rfl (hC2.grow hM4)) (raw1 rfl rfl rfl rfl hC4)
    have hM5 : Grow wM4 wM5 := hN5
    clear hwM5
    refine wpR_one (i := 6) (by kernel_rfl) ?_
    refine wpR_op (i := 6) rfl (by rfl) (fun K hK => ?_)
    go_simp
    refine (makes_yes fy1 (r := 1) rfl gy1 _ 3 3 wM5 rfl (Nat.le_refl _) hC5).mono ?_
    rintro e wM6 ⟨g, rfl, hC6, hM6⟩
    refine hK.out _ _ hM6 ?_
    clear hK K
    try simp only [Act.put, List.setIfInBounds_toArray, List.set_cons_zero, List.set_cons_succ]
    refine wpR_take growOrd (i := 7) (v := ?vf4) rfl (by kernel_rfl) (by kernel_rfl) (by kernel_rfl) (fun _ _ _ h => h) (by rfl) ?hf4 ?rf4
    case hf4 => (intro wg hSw; go_simp <;> with_reducible rfl)
    simp only [Act.put, List.setIfInBounds_toArray, List.set_cons_zero, List.set_cons_succ]
    refine wpR_take growOrd (i := 8) (v := ?vf5) rfl (by kernel_rfl) (by kernel_rfl) (by kernel_rfl) (fun _ _ _ h => h) (by rfl) ?hf5 ?rf5
    case hf5 => (intro wg hSw; go_simp <;> with_reducible rfl)
    simp only [Act.put, List.setIfInBounds_toArray, List.set_cons_zero, List.set_cons_succ]
    refine wpR_take growOrd (i := 9) (v := ?vf6) rfl (by kernel_rfl) (by kernel_rfl) (by kernel_rfl) (fun _ _ _ h => h) (by rfl) ?hf6 ?rf6
    case hf6 => (intro wg hSw; go_simp <;> with_reducible rfl)
    simp only [Act.put, List.setIfInBounds_toArray, List.set_cons_zero, List.set_cons_succ]
    refine wpR_take growOrd (i := 10) (v := ?vf7) rfl (by kernel_rfl) (by kernel_rfl) (by kernel_rfl) (fun _ _ _ h => h) (by rfl) ?hf7 ?rf7
    case hf7 => (intro wg hSw; go_simp <;> with_reducible rfl)
    simp only [Act.put, List.setIfInBounds_toArray, List.set_cons_zero, List.set_cons_succ]
    refine wpR_take growOrd (i := 11) (v := ?vf8) rfl (by kernel_rfl) (by kernel_rfl) (by kernel_rfl) (fun _ _ _ h => h) (by rfl) ?hf8 ?rf8
    case hf8 => (intro wg hSw; go_simp <;> with_reducible rfl)
    simp only [Act.put, List.setIfInBounds_toArray, List.set_cons_zero, List.set_cons_succ]
    refine wpR_done (by kernel_rfl) ?_
    have HN := Lib.hid hC6
    have HGG := Lib.hid (HW0.out.trans (Grow.trans (Grow.trans (Grow.trans (Grow.trans (Grow.refl W0) hM2) hM4) hM5) hM6))
    clear bc0 bc1 bc2 bc3
    go_wp2
    go_meet
    exact ⟨g, rfl, rfl, HN, HGG⟩
  case rest =>
    obtain ⟨g4, rfl, rfl, HA, hgc⟩ := hcut
    obtain ⟨v5, hv⟩ : ∃ v5, v5 = wc := ⟨_, rfl⟩
    subst hv
    replace HCH := Lib.hid (HCH.out.grow hgc.out)
    replace HBX := Lib.hid (HBX.out.grow hgc.out)
    replace HCN := Lib.hid (HCN.out.grow hgc.out)
    replace HXN := Lib.hid (HXN.out.grow hgc.out)
    replace HG4 := Lib.hid (HG4.out.trans hgc.out)
    clear hgc
    go_upto_region 5 with fail
    go_cut [6, 7] (fun s1 s2 wx => ∃ g, s1 = .slice (some ⟨g, 0, none⟩) 1 1 ∧ s2 = .bool true ∧ Hid (Nodes wx wx.heap.size (some ⟨g, 0, none⟩) z2) ∧ Hid (Grow v5 wx))
    case first =>
      refine wp_region_R Grow (n := 12) rfl (by kernel_rfl) ?_
      intro W0 hW0e hW0
      have HW0 := Lib.hid hW0
      have bc0 : ∀ wg, Grow W0 wg → wg.cell? ⟨z + 3, 0, none⟩ = some (.int .i64 5) := fun wg h => ((HBX.out.grow HW0.out).grow h).at0
      have bc1 : ∀ wg, Grow W0 wg → wg.cell? ⟨z + 3, 1, none⟩ = some (.slice (some ⟨z + 2, 0, none⟩) 1 1) := fun wg h => ((HBX.out.grow HW0.out).grow h).at1
      have bc2 : ∀ wg, Grow W0 wg → wg.cell? ⟨z + 3, 2, none⟩ = some (.slice none 0 0) := fun wg h => ((HBX.out.grow HW0.out).grow h).at2
      have bc3 : ∀ wg, Grow W0 wg → wg.cell? ⟨z + 3, 3, none⟩ = some (.slice none 0 0) := fun wg h => ((HBX.out.grow HW0.out).grow h).at3
      clear hW0e
      refine wpR_take growOrd (i := 0) (v := ?vf9) rfl (by kernel_rfl) (by kernel_rfl) (by kernel_rfl) (fun _ _ _ h => h) (by rfl) ?hf9 ?rf9
      case hf9 => (intro wg hSw; go_simp <;> with_reducible rfl)
      simp only [Act.put, List.setIfInBounds_toArray, List.set_cons_zero, List.set_cons_succ]
      refine wpR_take growOrd (i := 1) (v := ?vf10) rfl (by kernel_rfl) (by kernel_rfl) (by kernel_rfl) (fun _ _ _ h => h) (by rfl) ?hf10 ?rf10
      case hf10 => (intro wg hSw; go_simp <;> with_reducible rfl)
      simp only [Act.put, List.setIfInBounds_toArray, List.set_cons_zero, List.set_cons_succ]
      refine wpR_take growOrd (i := 3) (v := ?vf11) rfl (by kernel_rfl) (by kernel_rfl) (by kernel_rfl) (fun _ _ _ h => h) (by rfl) ?hf11 ?rf11
      case hf11 => (intro wg hSw; go_simp <;> with_reducible rfl)
      simp only [Act.put, List.setIfInBounds_toArray, List.set_cons_zero, List.set_cons_succ]
      refine wpR_one (i := 2) (by kernel_rfl) ?_
      refine wpR_op (i := 2) rfl (by rfl) (fun K hK => ?_)
      go_simp
      refine (tone_any 0 W0).mono ?_
      rintro e wM2 ⟨a2, rfl, hC2, hM2⟩
      refine hK.out _ _ hM2 ?_
      clear hK K
      try simp only [Act.put, List.setIfInBounds_toArray, List.set_cons_zero, List.set_cons_succ]
      refine wpR_one (i := 4) (by kernel_rfl) ?_
      refine wpR_op (i := 4) rfl (by rfl) (fun K hK => ?_)
      go_simp
      refine (tone_any 1 wM2).mono ?_
      rintro e wM4 ⟨a4, rfl, hC4, hM4⟩
      refine hK.out _ _ hM4 ?_
      clear hK K
      try simp only [Act.put, List.setIfInBounds_toArray, List.set_cons_zero, List.set_cons_succ]
      refine wpR_one (i := 5) (by kernel_rfl) ?_
      refine wpR_op (i := 5) rfl (by rfl) (fun K hK => ?_)
      go_simp
      refine hK.out _ _ (grow_new _ _) ?_
      clear hK K
      try simp only [Act.put, List.setIfInBounds_toArray, List.set_cons_zero, List.set_cons_succ]
      generalize hwM5 : World.alloc wM4 (.cells #[.int .i64 5, .slice (some ⟨z + 2, 0, none⟩) 1 1, .slice none 0 0, .slice none 0 0, .int .i64 2, .slice none 0 0, .slice (some ⟨a2, 0, none⟩) 1 1, .slice none 0 0, .int .i64 2, .slice none 0 0, .slice (some ⟨a4, 0, none⟩) 1 1, .slice none 0 0] 30) = wM5
      have hN5 : Grow wM4 wM5 := by rw [← hwM5]; exact grow_new _ _
      have hC5 : Nodes wM5 (wM5).heap.size (some ⟨(wM4).heap.size, 0, none⟩) y2 := by rw [← hwM5]; exact lit3 (w := wM4) (n1 := bx) (n2 := nd1 0) (n3 := nd1 1) [.int .i64 5, .slice (some ⟨z + 2, 0, none⟩) 1 1, .slice none 0 0, .slice none 0 0] [.int .i64 2, .slice none 0 0, .slice (some ⟨a2, 0, none⟩) 1 1, .slice none 0 0] [.int .i64 2, .slice none 0 0, .slice (some ⟨a4, 0, none⟩) 1 1, .slice none 0 0] (raw1 rfl rfl rfl rfl ((HXN.out.grow HW0.out).grow (Grow.trans (Grow.trans (Grow.refl W0) hM2) hM4))) (raw1 rfl rfl rfl rfl (hC2.grow hM4)) (raw1 rfl rfl rfl rfl hC4)
      have hM5 : Grow wM4 wM5 := hN5
      clear hwM5
      refine wpR_one (i := 6) (by kernel_rfl) ?_
      refine wpR_op (i := 6) rfl (by rfl) (fun K hK => ?_)
      go_simp
      refine (makes_yes fy2 (r := 1) rfl gy2 _ 3 3 wM5 rfl (Nat.le_refl _) hC5).mono ?_
      rintro e wM6 ⟨g, rfl, hC6, hM6⟩
      refine hK.out _ _ hM6 ?_
      clear hK K
      try simp only [Act.put, List.setIfInBounds_toArray, List.set_cons_zero, List.set_cons_succ]
      refine wpR_take growOrd (i := 7) (v := ?vf12) rfl (by kernel_rfl) (by kernel_rfl) (by kernel_rfl) (fun _ _ _ h => h) (by rfl) ?hf12 ?rf12
      case hf12 => (intro wg hSw; go_simp <;> with_reducible rfl)
      simp only [Act.put, List.setIfInBounds_toArray, List.set_cons_zero, List.set_cons_succ]
      refine wpR_take growOrd (i := 8) (v := ?vf13) rfl (by kernel_rfl) (by kernel_rfl) (by kernel_rfl) (fun _ _ _ h => h) (by rfl) ?hf13 ?rf13
      case hf13 => (intro wg hSw; go_simp <;> with_reducible rfl)
      simp only [Act.put, List.setIfInBounds_toArray, List.set_cons_zero, List.set_cons_succ]
      refine wpR_take growOrd (i := 9) (v := ?vf14) rfl (by kernel_rfl) (by kernel_rfl) (by kernel_rfl) (fun _ _ _ h => h) (by rfl) ?hf14 ?rf14
      case hf14 => (intro wg hSw; go_simp <;> with_reducible rfl)
      simp only [Act.put, List.setIfInBounds_toArray, List.set_cons_zero, List.set_cons_succ]
      refine wpR_take growOrd (i := 10) (v := ?vf15) rfl (by kernel_rfl) (by kernel_rfl) (by kernel_rfl) (fun _ _ _ h => h) (by rfl) ?hf15 ?rf15
      case hf15 => (intro wg hSw; go_simp <;> with_reducible rfl)
      simp only [Act.put, List.setIfInBounds_toArray, List.set_cons_zero, List.set_cons_succ]
      refine wpR_take growOrd (i := 11) (v := ?vf16) rfl (by kernel_rfl) (by kernel_rfl) (by kernel_rfl) (fun _ _ _ h => h) (by rfl) ?hf16 ?rf16
      case hf16 => (intro wg hSw; go_simp <;> with_reducible rfl)
      simp only [Act.put, List.setIfInBounds_toArray, List.set_cons_zero, List.set_cons_succ]
      refine wpR_done (by kernel_rfl) ?_
      have HN := Lib.hid hC6
      have HGG := Lib.hid (HW0.out.trans (Grow.trans (Grow.trans (Grow.trans (Grow.trans (Grow.refl W0) hM2) hM4) hM5) hM6))
      clear bc0 bc1 bc2 bc3
      go_wp2
      go_meet
      exact ⟨g, rfl, rfl, HN, HGG⟩
    case rest =>
      obtain ⟨g6, rfl, rfl, HD, hgc⟩ := hcut
      obtain ⟨v6, hv⟩ : ∃ v6, v6 = wc := ⟨_, rfl⟩
      subst hv
      replace HCH := Lib.hid (HCH.out.grow hgc.out)
      replace HBX := Lib.hid (HBX.out.grow hgc.out)
      replace HCN := Lib.hid (HCN.out.grow hgc.out)
      replace HXN := Lib.hid (HXN.out.grow hgc.out)
      replace HA := Lib.hid (HA.out.grow hgc.out)
      replace HG4 := Lib.hid (HG4.out.trans hgc.out)
      clear hgc
      go_upto_region 6 with fail
      refine wp_region_R Grow (n := 11) rfl (by kernel_rfl) ?_
      intro W0 hW0e hW0
      have HW0 := Lib.hid hW0
      have bc0 : ∀ wg, Grow W0 wg → wg.cell? ⟨z + 3, 0, none⟩ = some (.int .i64 5) := fun wg h => ((HBX.out.grow HW0.out).grow h).at0
      have bc1 : ∀ wg, Grow W0 wg → wg.cell? ⟨z + 3, 1, none⟩ = some (.slice (some ⟨z + 2, 0, none⟩) 1 1) := fun wg h => ((HBX.out.grow HW0.out).grow h).at1
      have bc2 : ∀ wg, Grow W0 wg → wg.cell? ⟨z + 3, 2, none⟩ = some (.slice none 0 0) := fun wg h => ((HBX.out.grow HW0.out).grow h).at2
      have bc3 : ∀ wg, Grow W0 wg → wg.cell? ⟨z + 3, 3, none⟩ = some (.slice none 0 0) := fun wg h => ((HBX.out.grow HW0.out).grow h).at3
      have cc0 : ∀ wg, Grow W0 wg → wg.cell? ⟨z + 1, 0, none⟩ = some (.int .i64 3) := fun wg h => ((HCH.out.grow HW0.out).grow h).at0
      have cc1 : ∀ wg, Grow W0 wg → wg.cell? ⟨z + 1, 1, none⟩ = some (.slice none 0 0) := fun wg h => ((HCH.out.grow HW0.out).grow h).at1
      have cc2 : ∀ wg, Grow W0 wg → wg.cell? ⟨z + 1, 2, none⟩ = some (.slice (some ⟨z, 0, none⟩) 1 1) := fun wg h => ((HCH.out.grow HW0.out).grow h).at2
      have cc3 : ∀ wg, Grow W0 wg → wg.cell? ⟨z + 1, 3, none⟩ = some (.slice none 0 0) := fun wg h => ((HCH.out.grow HW0.out).grow h).at3
      clear hW0e
      refine wpR_take growOrd (i := 0) (v := ?vf17) rfl (by kernel_rfl) (by kernel_rfl) (by kernel_rfl) (fun _ _ _ h => h) (by rfl) ?hf17 ?rf17
      case hf17 => (intro wg hSw; go_simp <;> with_reducible rfl)
      simp only [Act.put, List.setIfInBounds_toArray, List.set_cons_zero, List.set_cons_succ]
      refine wpR_take growOrd (i := 1) (v := ?vf18) rfl (by kernel_rfl) (by kernel_rfl) (by kernel_rfl) (fun _ _ _ h => h) (by rfl) ?hf18 ?rf18
      case hf18 => (intro wg hSw; go_simp <;> with_reducible rfl)
      simp only [Act.put, List.setIfInBounds_toArray, List.set_cons_zero, List.set_cons_succ]
      refine wpR_take growOrd (i := 2) (v := ?vf19) rfl (by kernel_rfl) (by kernel_rfl) (by kernel_rfl) (fun _ _ _ h => h) (by rfl) ?hf19 ?rf19
      case hf19 => (intro wg hSw; go_simp <;> with_reducible rfl)
      simp only [Act.put, List.setIfInBounds_toArray, List.set_cons_zero, List.set_cons_succ]
      refine wpR_one (i := 3) (by kernel_rfl) ?_
      refine wpR_op (i := 3) rfl (by rfl) (fun K hK => ?_)
      go_simp
      refine (tone_any 1 W0).mono ?_
      rintro e wM3 ⟨a3, rfl, hC3, hM3⟩
      refine hK.out _ _ hM3 ?_
      clear hK K
      try simp only [Act.put, List.setIfInBounds_toArray, List.set_cons_zero, List.set_cons_succ]
      refine wpR_one (i := 4) (by kernel_rfl) ?_
      refine wpR_op (i := 4) rfl (by rfl) (fun K hK => ?_)
      go_simp
      refine hK.out _ _ (grow_new _ _) ?_
      clear hK K
      try simp only [Act.put, List.setIfInBounds_toArray, List.set_cons_zero, List.set_cons_succ]
      generalize hwM4 : World.alloc wM3 (.cells #[.int .i64 5, .slice (some ⟨z + 2, 0, none⟩) 1 1, .slice none 0 0, .slice none 0 0, .int .i64 3, .slice none 0 0, .slice (some ⟨z, 0, none⟩) 1 1, .slice none 0 0, .int .i64 2, .slice none 0 0, .slice (some ⟨a3, 0, none⟩) 1 1, .slice none 0 0] 30) = wM4
      have hN4 : Grow wM3 wM4 := by rw [← hwM4]; exact grow_new _ _
      have hC4 : Nodes wM4 (wM4).heap.size (some ⟨(wM3).heap.size, 0, none⟩) y3 := by rw [← hwM4]; exact lit3 (w := wM3) (n1 := bx) (n2 := ch) (n3 := nd1 1) [.int .i64 5, .slice (some ⟨z + 2, 0, none⟩) 1 1, .slice none 0 0, .slice none 0 0] [.int .i64 3, .slice none 0 0, .slice (some ⟨z, 0, none⟩) 1 1, .slice none 0 0] [.int .i64 2, .slice none 0 0, .slice (some ⟨a3, 0, none⟩) 1 1, .slice none 0 0] (raw1 rfl rfl rfl rfl ((HXN.out.grow HW0.out).grow (Grow.trans (Grow.refl W0) hM3))) (raw1 rfl rfl rfl rfl ((HCN.out.grow HW0.out).grow (Grow.trans (Grow.refl W0) hM3))) (raw1 rfl rfl rfl rfl hC3)
      have hM4 : Grow wM3 wM4 := hN4
      clear hwM4
      refine wpR_one (i := 5) (by kernel_rfl) ?_
      refine wpR_op (i := 5) rfl (by rfl) (fun K hK => ?_)
      go_simp
      refine (makes_yes fy3 (r := 3) rfl gy3 _ 3 3 wM4 rfl (Nat.le_refl _) hC4).mono ?_
      rintro e wM5 ⟨g8, rfl, hC5, hM5⟩
      refine hK.out _ _ hM5 ?_
      clear hK K
      try simp only [Act.put, List.setIfInBounds_toArray, List.set_cons_zero, List.set_cons_succ]
      refine wpR_take growOrd (i := 6) (v := ?vf20) rfl (by kernel_rfl) (by kernel_rfl) (by kernel_rfl) (fun _ _ _ h => h) (by rfl) ?hf20 ?rf20
      case hf20 => (intro wg hSw; go_simp <;> with_reducible rfl)
      simp only [Act.put, List.setIfInBounds_toArray, List.set_cons_zero, List.set_cons_succ]
      refine wpR_take growOrd (i := 7) (v := ?vf21) rfl (by kernel_rfl) (by kernel_rfl) (by kernel_rfl) (fun _ _ _ h => h) (by rfl) ?hf21 ?rf21
      case hf21 => (intro wg hSw; go_simp <;> with_reducible rfl)
      simp only [Act.put, List.setIfInBounds_toArray, List.set_cons_zero, List.set_cons_succ]
      refine wpR_take growOrd (i := 8) (v := ?vf22) rfl (by kernel_rfl) (by kernel_rfl) (by kernel_rfl) (fun _ _ _ h => h) (by rfl) ?hf22 ?rf22
      case hf22 => (intro wg hSw; go_simp <;> with_reducible rfl)
      simp only [Act.put, List.setIfInBounds_toArray, List.set_cons_zero, List.set_cons_succ]
      refine wpR_take growOrd (i := 9) (v := ?vf23) rfl (by kernel_rfl) (by kernel_rfl) (by kernel_rfl) (fun _ _ _ h => h) (by rfl) ?hf23 ?rf23
      case hf23 => (intro wg hSw; go_simp <;> with_reducible rfl)
      simp only [Act.put, List.setIfInBounds_toArray, List.set_cons_zero, List.set_cons_succ]
      refine wpR_take growOrd (i := 10) (v := ?vf24) rfl (by kernel_rfl) (by kernel_rfl) (by kernel_rfl) (fun _ _ _ h => h) (by rfl) ?hf24 ?rf24
      case hf24 => (intro wg hSw; go_simp <;> with_reducible rfl)
      simp only [Act.put, List.setIfInBounds_toArray, List.set_cons_zero, List.set_cons_succ]
      refine wpR_done (by kernel_rfl) ?_
      have HF := Lib.hid hC5
      have HGX := Lib.hid (HW0.out.trans (Grow.trans (Grow.trans (Grow.trans (Grow.refl W0) hM3) hM4) hM5))
      clear bc0 bc1 bc2 bc3 cc0 cc1 cc2 cc3
      replace HCH := Lib.hid (HCH.out.grow HGX.out)
      replace HBX := Lib.hid (HBX.out.grow HGX.out)
      replace HCN := Lib.hid (HCN.out.grow HGX.out)
      replace HXN := Lib.hid (HXN.out.grow HGX.out)
      replace HA := Lib.hid (HA.out.grow HGX.out)
      replace HD := Lib.hid (HD.out.grow HGX.out)
      replace HG4 := Lib.hid (HG4.out.trans HGX.out)
      clear HGX HW0 hM3 hM4 hM5 hN4 hC3 hC4 hC5
      obtain ⟨v7, hv7⟩ : ∃ v7, v7 = wM5 := ⟨_, rfl⟩
      subst hv7
      have h7s : (v7.alloc (.cells #[.int .i64 0] 3)).heap.size = v7.heap.size + 1 := by simp
      have h7 := node_lit (v7.alloc (.cells #[.int .i64 0] 3)) 5 (some ⟨v7.heap.size, 0, none⟩) 1 1 none 0 0 none 0 0 ⟨5, [0], [], []⟩ rfl rfl rfl rfl ⟨nums_lit v7 [0], Nums.none_, Decs.none_⟩
      rw [h7s] at h7
      have H7 := Lib.hid h7
      have G7 := Lib.hid (grow_new2 v7 (.cells #[.int .i64 0] 3) (.cells #[.int .i64 5, .slice (some ⟨v7.heap.size, 0, none⟩) 1 1, .slice none 0 0, .slice none 0 0] 30))
      clear h7s h7
      go_wp2_with fail
      refine (makes_yes fy4 (r := 1) rfl gy4 _ 1 1 _ rfl (Nat.le_refl _) H7.out).mono ?_
      rintro e v8 ⟨g10, rfl, hh, hg8⟩
      have HH := Lib.hid hh
      have HGX := Lib.hid (G7.out.trans hg8)
      clear hh hg8 H7 G7
      replace HCH := Lib.hid (HCH.out.grow HGX.out)
      replace HBX := Lib.hid (HBX.out.grow HGX.out)
      replace HCN := Lib.hid (HCN.out.grow HGX.out)
      replace HXN := Lib.hid (HXN.out.grow HGX.out)
      replace HA := Lib.hid (HA.out.grow HGX.out)
      replace HD := Lib.hid (HD.out.grow HGX.out)
      replace HF := Lib.hid (HF.out.grow HGX.out)
      replace HG4 := Lib.hid (HG4.out.trans HGX.out)
      clear HGX
      have h8s : (v8.alloc (.cells #[.int .i64 2, .int .i64 0] 42)).heap.size = v8.heap.size + 1 := by simp
      have h8 := lit2 (w := v8.alloc (.cells #[.int .i64 2, .int .i64 0] 42)) (n1 := ⟨5, [], [], []⟩) (n2 := ⟨4, [], [], [(2, 0)]⟩) [.int .i64 5, .slice none 0 0, .slice none 0 0, .slice none 0 0] [.int .i64 4, .slice none 0 0, .slice none 0 0, .slice (some ⟨v8.heap.size, 0, none⟩) 1 1]
        (raw1 rfl rfl rfl rfl ⟨Nums.none_, Nums.none_, Decs.none_⟩) (raw1 rfl rfl rfl rfl ⟨Nums.none_, Nums.none_, decs_lit v8 [(2, 0)]⟩)
      rw [h8s] at h8
      have H8 := Lib.hid h8
      have G8 := Lib.hid (grow_new2 v8 (.cells #[.int .i64 2, .int .i64 0] 42) (.cells #[.int .i64 5, .slice none 0 0, .slice none 0 0, .slice none 0 0, .int .i64 4, .slice none 0 0, .slice none 0 0, .slice (some ⟨v8.heap.size, 0, none⟩) 1 1] 30))
      clear h8s h8
      go_wp2_with fail
      refine (makes_yes fy5 (r := 1) rfl gy5 _ 2 2 _ rfl (Nat.le_refl _) H8.out).mono ?_
      rintro e v9 ⟨g12, rfl, hh, hg9⟩
      have HK := Lib.hid hh
      have HGX := Lib.hid (G8.out.trans hg9)
      clear hh hg9 H8 G8
      replace HCH := Lib.hid (HCH.out.grow HGX.out)
      replace HBX := Lib.hid (HBX.out.grow HGX.out)
      replace HCN := Lib.hid (HCN.out.grow HGX.out)
      replace HXN := Lib.hid (HXN.out.grow HGX.out)
      replace HA := Lib.hid (HA.out.grow HGX.out)
      replace HD := Lib.hid (HD.out.grow HGX.out)
      replace HF := Lib.hid (HF.out.grow HGX.out)
      replace HH := Lib.hid (HH.out.grow HGX.out)
      replace HG4 := Lib.hid (HG4.out.trans HGX.out)
      clear HGX
      go_wp2_with fail
      refine (makes_no fy6 fine_nil none 0 0 v9 rfl (Nat.le_refl _) Nodes.none_).mono ?_
      rintro e v10 ⟨rfl, hg10⟩
      replace HCH := Lib.hid (HCH.out.grow hg10)
      replace HBX := Lib.hid (HBX.out.grow hg10)
      replace HCN := Lib.hid (HCN.out.grow hg10)
      replace HXN := Lib.hid (HXN.out.grow hg10)
      replace HA := Lib.hid (HA.out.grow hg10)
      replace HD := Lib.hid (HD.out.grow hg10)
      replace HF := Lib.hid (HF.out.grow hg10)
      replace HH := Lib.hid (HH.out.grow hg10)
      replace HK := Lib.hid (HK.out.grow hg10)
      replace HG4 := Lib.hid (HG4.out.trans hg10)
      clear hg10
      have h10s : (v10.alloc (.cells #[.int .i64 1] 3)).heap.size = v10.heap.size + 1 := by simp
      have hd10 := decs_lit (v10.alloc (.cells #[.int .i64 1] 3)) [(15, -1)]
      rw [h10s] at hd10
      have H10 := Lib.hid hd10
      have N10 := Lib.hid (Nums.grow (nums_lit v10 [1]) (grow_new (v10.alloc (.cells #[.int .i64 1] 3)) (.cells #[.int .i64 15, .int .i64 (-1)] 42)))
      have G10 := Lib.hid (grow_new2 v10 (.cells #[.int .i64 1] 3) (.cells #[.int .i64 15, .int .i64 (-1)] 42))
      clear h10s hd10
      go_wp2_with fail
      refine (tnum_seven _ _ _ N10.out H10.out).mono ?_
      rintro e v11 ⟨B1, k1, B2, k2, B3, k3, rfl, hn11, hg11⟩
      have HGX := Lib.hid ((G10.out.trans hg11).trans (grow_new v11 (.cells #[.int .i64 4, .slice B1 1 k1, .slice B2 0 k2, .slice B3 1 k3] 30)))
      have HON := Lib.hid (hn11.grow (grow_new v11 (.cells #[.int .i64 4, .slice B1 1 k1, .slice B2 0 k2, .slice B3 1 k3] 30)))
      have HOB := Lib.hid (boxN_new v11 4 B1 1 k1 B2 0 k2 B3 1 k3)
      clear hn11 hg11 N10 H10 G10
      obtain ⟨ob, hob⟩ : ∃ ob, v11.heap.size = ob := ⟨_, rfl⟩
      rw [hob] at HOB
      replace HCH := Lib.hid (HCH.out.grow HGX.out)
      replace HBX := Lib.hid (HBX.out.grow HGX.out)
      replace HCN := Lib.hid (HCN.out.grow HGX.out)
      replace HXN := Lib.hid (HXN.out.grow HGX.out)
      replace HA := Lib.hid (HA.out.grow HGX.out)
      replace HD := Lib.hid (HD.out.grow HGX.out)
      replace HF := Lib.hid (HF.out.grow HGX.out)
      replace HH := Lib.hid (HH.out.grow HGX.out)
      replace HK := Lib.hid (HK.out.grow HGX.out)
      replace HG4 := Lib.hid (HG4.out.trans HGX.out)
      clear HGX
      go_upto_region 11 with fail
      generalize hv12 : v11.alloc (.cells #[.int .i64 4, .slice B1 1 k1, .slice B2 0 k2, .slice B3 1 k3] 30) = v12 at *
      clear hv12
      have h11s : (v12.alloc (.cells #[.int .i64 2] 3)).heap.size = v12.heap.size + 1 := by simp
      have hd11 := decs_lit (v12.alloc (.cells #[.int .i64 2] 3)) [(1, 0)]
      rw [h11s] at hd11
      have H11 := Lib.hid hd11
      have N11 := Lib.hid (Nums.grow (nums_lit v12 [2]) (grow_new (v12.alloc (.cells #[.int .i64 2] 3)) (.cells #[.int .i64 1, .int .i64 0] 42)))
      have G11 := Lib.hid (grow_new2 v12 (.cells #[.int .i64 2] 3) (.cells #[.int .i64 1, .int .i64 0] 42))
      clear h11s hd11
      go_wp2_with fail
      refine (tnum_eight _ _ _ N11.out H11.out).mono ?_
      rintro e v13 ⟨rfl, hg13⟩
      have HGX := Lib.hid ((G11.out.trans hg13).trans (grow_new v13 (.cells #[.int .i64 0, .slice none 0 0, .slice none 0 0, .slice none 0 0] 30)))
      clear hg13 N11 H11 G11
      replace HCH := Lib.hid (HCH.out.grow HGX.out)
      replace HBX := Lib.hid (HBX.out.grow HGX.out)
      replace HCN := Lib.hid (HCN.out.grow HGX.out)
      replace HXN := Lib.hid (HXN.out.grow HGX.out)
      replace HA := Lib.hid (HA.out.grow HGX.out)
      replace HD := Lib.hid (HD.out.grow HGX.out)
      replace HF := Lib.hid (HF.out.grow HGX.out)
      replace HH := Lib.hid (HH.out.grow HGX.out)
      replace HK := Lib.hid (HK.out.grow HGX.out)
      replace HON := Lib.hid (HON.out.grow HGX.out)
      replace HOB := Lib.hid (HOB.out.grow HGX.out)
      replace HG4 := Lib.hid (HG4.out.trans HGX.out)
      clear HGX
      go_upto_region 12 with fail
      generalize hv14 : v13.alloc (.cells #[.int .i64 0, .slice none 0 0, .slice none 0 0, .slice none 0 0] 30) = v14 at *
      clear hv14
      go_wp2_with fail
      refine (rsames (β := true) (xs := z1) (ys := z1) (decide_eq_true rfl) gz1 gz1 _ _ 1 1 1 1 _ rfl rfl (HA.out.grow (grow_new3 v14 _ _ _)) (litSI v14 2 [2] [3, 1])).mono ?_
      rintro e v15 ⟨rfl, hg⟩
      have HGX := Lib.hid ((grow_new3 v14 _ _ _).trans hg)
      clear hg
      replace HCH := Lib.hid (HCH.out.grow HGX.out)
      replace HBX := Lib.hid (HBX.out.grow HGX.out)
      replace HCN := Lib.hid (HCN.out.grow HGX.out)
      replace HXN := Lib.hid (HXN.out.grow HGX.out)
      replace HA := Lib.hid (HA.out.grow HGX.out)
      replace HD := Lib.hid (HD.out.grow HGX.out)
      replace HF := Lib.hid (HF.out.grow HGX.out)
      replace HH := Lib.hid (HH.out.grow HGX.out)
      replace HK := Lib.hid (HK.out.grow HGX.out)
      replace HON := Lib.hid (HON.out.grow HGX.out)
      replace HOB := Lib.hid (HOB.out.grow HGX.out)
      replace HG4 := Lib.hid (HG4.out.trans HGX.out)
      clear HGX
      go_wp2_with fail
      refine (rsames (β := true) (xs := z2) (ys := z2) (decide_eq_true rfl) gz2 gz2 _ _ 1 1 1 1 _ rfl rfl (HD.out.grow (grow_new3 v15 _ _ _)) (litSI v15 1 [2] [0, 1])).mono ?_
      rintro e v16 ⟨rfl, hg⟩
      have HGX := Lib.hid ((grow_new3 v15 _ _ _).trans hg)
      clear hg
      replace HCH := Lib.hid (HCH.out.grow HGX.out)
      replace HBX := Lib.hid (HBX.out.grow HGX.out)
      replace HCN := Lib.hid (HCN.out.grow HGX.out)
      replace HXN := Lib.hid (HXN.out.grow HGX.out)
      replace HA := Lib.hid (HA.out.grow HGX.out)
      replace HD := Lib.hid (HD.out.grow HGX.out)
      replace HF := Lib.hid (HF.out.grow HGX.out)
      replace HH := Lib.hid (HH.out.grow HGX.out)
      replace HK := Lib.hid (HK.out.grow HGX.out)
      replace HON := Lib.hid (HON.out.grow HGX.out)
      replace HOB := Lib.hid (HOB.out.grow HGX.out)
      replace HG4 := Lib.hid (HG4.out.trans HGX.out)
      clear HGX
      have bb0 := HBX.out.at0
      have bb1 := HBX.out.at1
      have bb2 := HBX.out.at2
      have bb3 := HBX.out.at3
      have cb0 := HCH.out.at0
      have cb1 := HCH.out.at1
      have cb2 := HCH.out.at2
      have cb3 := HCH.out.at3
      have h16s : (v16.alloc (.cells #[.int .i64 1] 3)).heap.size = v16.heap.size + 1 := by simp
      have h16 := lit3 (w := v16.alloc (.cells #[.int .i64 1] 3)) (n1 := bx) (n2 := ch) (n3 := ⟨1, [], [1], []⟩) [.int .i64 5, .slice (some ⟨z + 2, 0, none⟩) 1 1, .slice none 0 0, .slice none 0 0] [.int .i64 3, .slice none 0 0, .slice (some ⟨z, 0, none⟩) 1 1, .slice none 0 0] [.int .i64 1, .slice none 0 0, .slice (some ⟨v16.heap.size, 0, none⟩) 1 1, .slice none 0 0] (raw1 rfl rfl rfl rfl (HXN.out.grow (grow_new _ _))) (raw1 rfl rfl rfl rfl (HCN.out.grow (grow_new _ _))) (raw1 rfl rfl rfl rfl ⟨Nums.none_, nums_lit v16 [1], Decs.none_⟩)
      rw [h16s] at h16
      have H16 := Lib.hid h16
      clear h16 h16s
      go_wp2_with fail
      refine (rsames (β := true) (xs := z3) (ys := z3) (decide_eq_true rfl) gz3 gz3 _ _ 3 3 3 3 _ rfl rfl (HF.out.grow (grow_new2 v16 _ _)) H16.out).mono ?_
      rintro e v17 ⟨rfl, hg⟩
      have HGX := Lib.hid ((grow_new2 v16 _ _).trans hg)
      clear hg
      replace HCH := Lib.hid (HCH.out.grow HGX.out)
      replace HBX := Lib.hid (HBX.out.grow HGX.out)
      replace HCN := Lib.hid (HCN.out.grow HGX.out)
      replace HXN := Lib.hid (HXN.out.grow HGX.out)
      replace HA := Lib.hid (HA.out.grow HGX.out)
      replace HD := Lib.hid (HD.out.grow HGX.out)
      replace HF := Lib.hid (HF.out.grow HGX.out)
      replace HH := Lib.hid (HH.out.grow HGX.out)
      replace HK := Lib.hid (HK.out.grow HGX.out)
      replace HON := Lib.hid (HON.out.grow HGX.out)
      replace HOB := Lib.hid (HOB.out.grow HGX.out)
      replace HG4 := Lib.hid (HG4.out.trans HGX.out)
      clear HGX
      clear bb0 bb1 bb2 bb3
      clear cb0 cb1 cb2 cb3
      go_wp2_with fail
      refine (rsames (β := true) (xs := z4) (ys := z4) (decide_eq_true rfl) gz4 gz4 _ _ 1 1 1 1 _ rfl rfl (HH.out.grow (grow_new2 v17 _ _)) (litS v17 2 [0])).mono ?_
      rintro e v18 ⟨rfl, hg⟩
      have HGX := Lib.hid ((grow_new2 v17 _ _).trans hg)
      clear hg
      replace HCH := Lib.hid (HCH.out.grow HGX.out)
      replace HBX := Lib.hid (HBX.out.grow HGX.out)
      replace HCN := Lib.hid (HCN.out.grow HGX.out)
      replace HXN := Lib.hid (HXN.out.grow HGX.out)
      replace HA := Lib.hid (HA.out.grow HGX.out)
      replace HD := Lib.hid (HD.out.grow HGX.out)
      replace HF := Lib.hid (HF.out.grow HGX.out)
      replace HH := Lib.hid (HH.out.grow HGX.out)
      replace HK := Lib.hid (HK.out.grow HGX.out)
      replace HON := Lib.hid (HON.out.grow HGX.out)
      replace HOB := Lib.hid (HOB.out.grow HGX.out)
      replace HG4 := Lib.hid (HG4.out.trans HGX.out)
      clear HGX
      go_wp2_with fail
      refine (rsames (β := true) (xs := z5) (ys := z5) (decide_eq_true rfl) gz5 gz5 _ _ 1 1 1 1 _ rfl rfl (HK.out.grow (grow_new2 v18 _ _)) (litI v18 2 [2])).mono ?_
      rintro e v19 ⟨rfl, hg⟩
      have HGX := Lib.hid ((grow_new2 v18 _ _).trans hg)
      clear hg
      replace HCH := Lib.hid (HCH.out.grow HGX.out)
      replace HBX := Lib.hid (HBX.out.grow HGX.out)
      replace HCN := Lib.hid (HCN.out.grow HGX.out)
      replace HXN := Lib.hid (HXN.out.grow HGX.out)
      replace HA := Lib.hid (HA.out.grow HGX.out)
      replace HD := Lib.hid (HD.out.grow HGX.out)
      replace HF := Lib.hid (HF.out.grow HGX.out)
      replace HH := Lib.hid (HH.out.grow HGX.out)
      replace HK := Lib.hid (HK.out.grow HGX.out)
      replace HON := Lib.hid (HON.out.grow HGX.out)
      replace HOB := Lib.hid (HOB.out.grow HGX.out)
      replace HG4 := Lib.hid (HG4.out.trans HGX.out)
      clear HGX
      have ob0 := HOB.out.at0
      have ob1 := HOB.out.at1
      have ob2 := HOB.out.at2
      have ob3 := HOB.out.at3
      have h19s : (v19.alloc (.cells #[.int .i64 1] 3)).heap.size = v19.heap.size + 1 := by simp
      have h19 := decs_lit (v19.alloc (.cells #[.int .i64 1] 3)) [(15, -1)]
      rw [h19s] at h19
      have H19 := Lib.hid h19
      clear h19 h19s
      go_wp2_with fail
      refine (one_seven B1 k1 B2 k2 B3 k3 v19.heap.size (v19.heap.size + 1) _ (HON.out.grow (grow_new2 v19 _ _)) (Nums.grow (nums_lit v19 [1]) (grow_new _ _)) H19.out).mono ?_
      rintro e v20 ⟨rfl, hg⟩
      have HGX := Lib.hid ((grow_new2 v19 _ _).trans hg)
      clear hg
      replace HCH := Lib.hid (HCH.out.grow HGX.out)
      replace HBX := Lib.hid (HBX.out.grow HGX.out)
      replace HCN := Lib.hid (HCN.out.grow HGX.out)
      replace HXN := Lib.hid (HXN.out.grow HGX.out)
      replace HA := Lib.hid (HA.out.grow HGX.out)
      replace HD := Lib.hid (HD.out.grow HGX.out)
      replace HF := Lib.hid (HF.out.grow HGX.out)
      replace HH := Lib.hid (HH.out.grow HGX.out)
      replace HK := Lib.hid (HK.out.grow HGX.out)
      replace HON := Lib.hid (HON.out.grow HGX.out)
      replace HOB := Lib.hid (HOB.out.grow HGX.out)
      replace HG4 := Lib.hid (HG4.out.trans HGX.out)
      clear HGX
      clear ob0 ob1 ob2 ob3
      go_wp2_with fail
      refine (trights fy9 fi1.1 gz1 _ 1 1 _ rfl (Nat.le_refl _) HA.out).mono ?_
      rintro e v21 ⟨rfl, hg⟩
      have HGX := Lib.hid ((Grow.refl v20).trans hg)
      clear hg
      replace HCH := Lib.hid (HCH.out.grow HGX.out)
      replace HBX := Lib.hid (HBX.out.grow HGX.out)
      replace HCN := Lib.hid (HCN.out.grow HGX.out)
      replace HXN := Lib.hid (HXN.out.grow HGX.out)
      replace HA := Lib.hid (HA.out.grow HGX.out)
      replace HG4 := Lib.hid (HG4.out.trans HGX.out)
      clear HGX
      go_wp2_with fail
      refine (tone_any 1 _).mono ?_
      rintro e v22 ⟨a22, rfl, hn22, hg⟩
      have HGX := Lib.hid ((Grow.refl v21).trans hg)
      clear hg
      replace HCH := Lib.hid (HCH.out.grow HGX.out)
      replace HBX := Lib.hid (HBX.out.grow HGX.out)
      replace HCN := Lib.hid (HCN.out.grow HGX.out)
      replace HXN := Lib.hid (HXN.out.grow HGX.out)
      replace HG4 := Lib.hid (HG4.out.trans HGX.out)
      clear HGX
      have HN22 := Lib.hid hn22
      clear hn22
      go_wp2_with fail
      refine (trights fy10 fi1.2.1 gn1 _ 1 1 _ rfl (Nat.le_refl _) (node_lit v22 2 none 0 0 (some ⟨a22, 0, none⟩) 1 1 none 0 0 (nd1 1) rfl rfl rfl rfl HN22.out)).mono ?_
      rintro e v23 ⟨rfl, hg⟩
      have HGX := Lib.hid ((grow_new v22 _).trans hg)
      clear hg
      replace HCH := Lib.hid (HCH.out.grow HGX.out)
      replace HBX := Lib.hid (HBX.out.grow HGX.out)
      replace HCN := Lib.hid (HCN.out.grow HGX.out)
      replace HXN := Lib.hid (HXN.out.grow HGX.out)
      replace HG4 := Lib.hid (HG4.out.trans HGX.out)
      clear HGX
      have cb0 := HCH.out.at0
      have cb1 := HCH.out.at1
      have cb2 := HCH.out.at2
      have cb3 := HCH.out.at3
      go_wp2_with fail
      refine (trights fy11 fi1.2.2 gch _ 1 1 _ rfl (Nat.le_refl _) (node_lit v23 3 none 0 0 (some ⟨z, 0, none⟩) 1 1 none 0 0 ch rfl rfl rfl rfl HCN.out)).mono ?_
      rintro e v24 ⟨rfl, hg⟩
      have HGX := Lib.hid ((grow_new v23 _).trans hg)
      clear hg
      replace HG4 := Lib.hid (HG4.out.trans HGX.out)
      clear HGX
      clear cb0 cb1 cb2 cb3
      go_wp2
      go_ret
      exact ⟨rfl, HG4.out⟩
end Go.Proofs.Ytcljpcbgokgcdaa
