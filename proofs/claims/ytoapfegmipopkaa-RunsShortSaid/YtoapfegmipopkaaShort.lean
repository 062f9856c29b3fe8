/-
  The law RunsShort at every input.
-/
import Derived.Test.YtoapfegmipopkaaGrows
import Derived.Deep.DeepCutAuto
namespace Go.Proofs.Ytoapfegmipopkaa
open Go.RowKit

set_option maxRecDepth 10000 in
set_option maxHeartbeats 800000 in
theorem short_no (C x : Int) (A : Option Addr) (n c : Nat) (w : World) (hn : n ≤ 9223372036854775807) (h : x < 3 ∨ (3 ≤ x ∧ 5000 < x) ∨ (3 ≤ x ∧ x ≤ 5000 ∧ 1000 < n) ∨ (3 ≤ x ∧ x ≤ 5000 ∧ n < 1)) :
    Calls Try.prog 6 #[.int .u8 C, .int .i64 x, .slice A n c] w (Fine w) := by
  have HS := Lib.hid (small_any w)
  rcases h with h | ⟨h1, h2⟩ | ⟨h1, h2, h3⟩ | ⟨h1, h2, h3⟩
  all_goals
    go_enter Try.func6, Try.ntmps6
    go_wp2_with fail
    refine (HS.out).mono ?_
    rintro e w1 ⟨rfl, hb1⟩
    go_wp2
    go_ret
    exact ⟨rfl, hb1⟩

set_option linter.unusedSimpArgs false
set_option maxRecDepth 10000 in
set_option maxHeartbeats 3200000 in
theorem short_yes (C : Int) (N : Nat) (A : Option Addr) (n c : Nat) (bs : List Int) (w : World) (hC0 : 0 ≤ C) (hC1 : C < 256) (h3 : 3 ≤ N) (hN : N ≤ 5000) (h1 : bs.length = n) (hn1 : 1 ≤ n) (hn : n ≤ 1000) (hnc : n ≤ c) (hc : A = none → c = 0) (b1 : Byt bs) (r1 : Nums .u8 w w.heap.size A bs) :
    Calls Try.prog 6 #[.int .u8 C, .int .i64 (N : Nat), .slice A n c] w (Fine w) := by
  have HS := Lib.hid (small_any w)
  have HR := Lib.hid r1
  have HN := Lib.hid h1
  have HB := Lib.hid b1
  have HCB := Lib.hid (show Byt (List.replicate N C) from fun y hy => by rw [List.eq_of_mem_replicate hy]; exact ⟨hC0, hC1⟩)
  obtain ⟨M, hM⟩ : ∃ M, N = M + 3 := ⟨N - 3, by omega⟩
  obtain ⟨D, hD⟩ : ∃ D, (digs (2 * M + 1)).length = D := ⟨_, rfl⟩
  have hD10 : D ≤ 10 := by have := digs_ten (n := 2 * M + 1) (by omega); omega
  have HE := Lib.hid (show enc (List.replicate N C) = digs (2 * M + 1) ++ [C] by rw [hM]; exact enc_like C M)
  have HD := Lib.hid hD
  have HM := Lib.hid hM
  have HDL := Lib.hid (show (digs (2 * M + 1) ++ [C]).length = D + 1 by rw [List.length_append, hD]; rfl)
  clear h1 b1 r1 hD hM
  go_enter Try.func6, Try.ntmps6
  go_wp2_with fail
  refine (HS.out).mono ?_
  rintro e w1 ⟨rfl, hb1⟩
  have HB1 := Lib.hid hb1
  clear hb1
  go_wp2_with fail
  go_loopg [8, 9] N (fun gk s8 s9 wr => ∃ (k : Nat) (v : Value), k ≤ N ∧ gk = N - k ∧ v = s8 ∧ s9 = .int .i64 k ∧ wr.ownsRow w1.heap.size 5 1 v k (u8s (List.replicate k C)) ∧ Grow w1 wr)
  case atStart => exact ⟨0, _, Nat.zero_le _, rfl, rfl, rfl, World.ownsRow_nil _ _ _ _, Grow.refl _⟩
  case round =>
    obtain ⟨k, v, hk, rfl, rfl, rfl, hown, hg⟩ := hrel
    by_cases hlt : k < N
    · have HO := Lib.hid (hown.alloc (.cells #[.int .u8 C] 5))
      have HL := Lib.hid (lit_nums wr .u8 5 [C])
      have HG := Lib.hid (hg.trans (grow_new wr (.cells #[.int .u8 C] 5)))
      clear hown hg
      go_wp2_with (at_builtin; refine wpList_append_bytes rfl _ _ rfl w1.heap.size v k 1 1 (List.replicate k C) [C] (some ⟨wr.heap.size, 0, none⟩) _ rfl HO.out rfl rfl (by simp) HL.out (by omega) HG.out.size ?_; intro v2 w2 hown2 hb2)
      have HO2 := Lib.hid (show w2.ownsRow w1.heap.size 5 1 v2 (k + 1) (u8s (List.replicate (k + 1) C)) by rw [List.replicate_succ']; exact hown2)
      have HG2 := Lib.hid (show Grow w1 w2 from Below.trans HG.out hb2)
      clear hown2 hb2
      go_wp2
      go_roundg (N - (k + 1))
      case rel => exact ⟨k + 1, v2, by omega, rfl, rfl, by go_num, HO2.out, HG2.out⟩
      case measure => omega
    · obtain rfl : N = k := by omega
      obtain ⟨w2, hw2⟩ : ∃ w2, w2 = wr := ⟨_, rfl⟩
      subst hw2
      obtain ⟨A2, c2, rfl, hA2, hn2, -⟩ := own_nums hown
      have hcap2 := own_cap hown
      have HB2 := Lib.hid (HB1.out.trans hg)
      have HEN := Lib.hid ((encode_any A2 N c2 (List.replicate N C) w2 (by simp) (by omega) hcap2 hA2 HCB.out hn2).mono fun _ _ x => x.bytes (show _ = D + 1 by rw [HE.out]; exact HDL.out))
      rw [HE.out] at HEN
      clear hown hg hn2
      go_wp2_with fail
      refine (HEN.out).mono ?_
      rintro e w3 ⟨A3, c3, rfl, -, -, hn3, hb3⟩
      have HN3 := Lib.hid hn3
      have HB3 := Lib.hid (HB2.out.trans hb3)
      clear hn3 hb3 HEN
      go_upto_region 10 with fail
      go_cut [54] from 41 to 54 (fun z wx => z = .bool false ∧ Grow w3 wx)
      case first =>
        have hw0 : IntKind.i64.wrap ((N : Int) - 3) = (N : Int) - 3 := by rw [IntKind.wrap_i64]; omega
        have hw1 : IntKind.u64.wrap ((N : Int) - 3) = (N : Int) - 3 := by rw [IntKind.wrap_u64]; omega
        have hw2 : IntKind.u64.wrap (2 * ((N : Int) - 3)) = 2 * ((N : Int) - 3) := by rw [IntKind.wrap_u64]; omega
        have hw3 : IntKind.u64.wrap (2 * ((N : Int) - 3) + 1) = 2 * ((N : Int) - 3) + 1 := by rw [IntKind.wrap_u64]; omega
        have HX := Lib.hid (show (2 * ((N : Int) - 3) + 1).toNat = 2 * M + 1 by have := HM.out; omega)
        obtain ⟨S, hS⟩ : ∃ S, strOfNums (digs (2 * M + 1) ++ [C]) = S := ⟨_, rfl⟩
        have HSS := Lib.hid hS
        clear hS
        refine wp_region_R Grow (n := 14) rfl (by kernel_rfl) ?_
        intro W0 hW0e hW0
        have hG0 : Grow w3 W0 := hW0
        have hs1 : ∀ wg, Grow W0 wg → (convert 22 9 (.slice A3 (D + 1) c3)).run Try.prog wg = .ok (.string S) wg := fun wg hg => by
          rw [← HSS.out]
          exact conv_at (D + 1) c3 HN3.out HDL.out wg (hG0.trans hg)
        clear hW0e
        refine wpR_take growOrd (i := 0) (v := ?vf1) rfl (by kernel_rfl) (by kernel_rfl) (by kernel_rfl) (fun _ _ _ h => h) (by rfl) ?hf1 ?rf1
        case hf1 => (intro wg hSw; go_simp <;> with_reducible rfl)
        simp only [Act.put, List.setIfInBounds_toArray, List.set_cons_zero, List.set_cons_succ]
        refine wpR_take growOrd (i := 1) (v := ?vf2) rfl (by kernel_rfl) (by kernel_rfl) (by kernel_rfl) (fun _ _ _ h => h) (by rfl) ?hf2 ?rf2
        case hf2 => (intro wg hSw; go_simp <;> with_reducible rfl)
        simp only [Act.put, List.setIfInBounds_toArray, List.set_cons_zero, List.set_cons_succ]
        refine wpR_take growOrd (i := 2) (v := ?vf3) rfl (by kernel_rfl) (by kernel_rfl) (by kernel_rfl) (fun _ _ _ h => h) (by rfl) ?hf3 ?rf3
        case hf3 => (intro wg hSw; go_simp <;> with_reducible rfl)
        simp only [Act.put, List.setIfInBounds_toArray, List.set_cons_zero, List.set_cons_succ]
        refine wpR_take growOrd (i := 3) (v := ?vf4) rfl (by kernel_rfl) (by kernel_rfl) (by kernel_rfl) (fun _ _ _ h => h) (by rfl) ?hf4 ?rf4
        case hf4 => (intro wg hSw; go_simp <;> with_reducible rfl)
        simp only [Act.put, List.setIfInBounds_toArray, List.set_cons_zero, List.set_cons_succ]
        refine wpR_take growOrd (i := 4) (v := ?vf5) rfl (by kernel_rfl) (by kernel_rfl) (by kernel_rfl) (fun _ _ _ h => h) (by rfl) ?hf5 ?rf5
        case hf5 => (intro wg hSw; go_simp <;> with_reducible rfl)
        simp only [Act.put, List.setIfInBounds_toArray, List.set_cons_zero, List.set_cons_succ]
        refine wpR_take growOrd (i := 5) (v := ?vf6) rfl (by kernel_rfl) (by kernel_rfl) (by kernel_rfl) (fun _ _ _ h => h) (by rfl) ?hf6 ?rf6
        case hf6 => (intro wg hSw; go_simp <;> with_reducible rfl)
        simp only [Act.put, List.setIfInBounds_toArray, List.set_cons_zero, List.set_cons_succ]
        refine wpR_take growOrd (i := 6) (v := ?vf7) rfl (by kernel_rfl) (by kernel_rfl) (by kernel_rfl) (fun _ _ _ h => h) (by rfl) ?hf7 ?rf7
        case hf7 => (intro wg hSw; go_simp <;> with_reducible rfl)
        simp only [Act.put, List.setIfInBounds_toArray, List.set_cons_zero, List.set_cons_succ]
        refine wpR_take growOrd (i := 9) (v := ?vf8) rfl (by kernel_rfl) (by kernel_rfl) (by kernel_rfl) (fun _ _ _ h => h) (by rfl) ?hf8 ?rf8
        case hf8 => (intro wg hSw; go_simp <;> with_reducible rfl)
        simp only [Act.put, List.setIfInBounds_toArray, List.set_cons_zero, List.set_cons_succ]
        refine wpR_two (i := 7) (j := 10) (by kernel_rfl) ?_ ?_
        · refine wpR_op (i := 7) rfl (by rfl) (fun K hK => ?_)
          go_simp
          refine hK.out _ _ (grow_new _ _) ?_
          clear hK K
          try simp only [Act.put, List.setIfInBounds_toArray, List.set_cons_zero, List.set_cons_succ]
          generalize hwM7 : World.alloc W0 (Obj.cells _ 29) = wM7
          have hM7 : Grow W0 wM7 := by rw [← hwM7]; exact grow_new _ _
          have hB7 : Nums .u64 wM7 wM7.heap.size (some ⟨W0.heap.size, 0, none⟩) [2 * ((N : Int) - 3) + 1] := by
            rw [← hwM7]
            exact lit_nums W0 .u64 29 [2 * ((N : Int) - 3) + 1]
          clear hwM7
          refine wpR_two (i := 8) (j := 10) (by kernel_rfl) ?_ ?_
          · refine wpR_op (i := 8) rfl (by rfl) (fun K hK => ?_)
            go_simp
            refine (put_nil _ 1 1 D [2 * ((N : Int) - 3) + 1] wM7 rfl (by decide) (by intro y hy; simp at hy; omega) hB7 (by rw [flat_one, HX.out]; exact HD.out)).mono ?_
            rintro e wM8 ⟨g8, rfl, hrow8, hM8, _⟩
            have hC8 : Nums .u8 wM8 wM8.heap.size (some ⟨g8, 0, none⟩) (digs (2 * M + 1)) := by
              rw [flat_one, HX.out, ← HD.out] at hrow8
              exact Nums.of_row hrow8
            clear hrow8
            refine hK.out _ _ hM8 ?_
            clear hK K
            try simp only [Act.put, List.setIfInBounds_toArray, List.set_cons_zero, List.set_cons_succ]
            refine wpR_one (i := 10) (by kernel_rfl) ?_
            refine wpR_op (i := 10) rfl (by rfl) (fun K hK => ?_)
            go_simp
            refine hK.out _ _ (grow_new _ _) ?_
            clear hK K
            try simp only [Act.put, List.setIfInBounds_toArray, List.set_cons_zero, List.set_cons_succ]
            generalize hwM10 : World.alloc wM8 (Obj.cells _ 5) = wM10
            have hM10 : Grow wM8 wM10 := by rw [← hwM10]; exact grow_new _ _
            have hB10 : Nums .u8 wM10 wM10.heap.size (some ⟨wM8.heap.size, 0, none⟩) [C] := by
              rw [← hwM10]
              exact lit_nums wM8 .u8 5 [C]
            clear hwM10
            refine wpR_one (i := 11) (by kernel_rfl) ?_
            refine wpR_op (i := 11) rfl (by rfl) (fun K hK => ?_)
            refine wp_grows _ _ rfl ⟨g8, 0, none⟩ D 1 1 _ (digs (2 * M + 1)) [C] rfl rfl HD.out.symm rfl (by decide) (hC8.grow hM10) hB10 (by omega) ?_
            intro A11 c11 wM11 hown11 hM11
            have hs2 : ∀ wg, Grow wM11 wg → (convert 22 9 (.slice A11 (D + 1) c11)).run Try.prog wg = .ok (.string S) wg := fun wg hg => by
              obtain ⟨A', c', e', -, hn', -⟩ := own_nums hown11
              cases e'
              rw [← HSS.out]
              exact conv_at (D + 1) c11 hn' HDL.out wg hg
            clear hown11
            refine hK.out _ _ hM11 ?_
            clear hK K
            try simp only [Act.put, List.setIfInBounds_toArray, List.set_cons_zero, List.set_cons_succ]
            refine wpR_take growOrd (i := 12) (v := ?vf9) rfl (by kernel_rfl) (by kernel_rfl) (by kernel_rfl) (fun _ _ _ h => h) (by rfl) ?hf9 ?rf9
            case hf9 => (intro wg hSw; go_simp <;> with_reducible rfl)
            simp only [Act.put, List.setIfInBounds_toArray, List.set_cons_zero, List.set_cons_succ]
            refine wpR_take growOrd (i := 13) (v := ?vf10) rfl (by kernel_rfl) (by kernel_rfl) (by kernel_rfl) (fun _ _ _ h => h) (by rfl) ?hf10 ?rf10
            case hf10 => (intro wg hSw; go_simp <;> with_reducible rfl)
            simp only [Act.put, List.setIfInBounds_toArray, List.set_cons_zero, List.set_cons_succ]
            refine wpR_done (by kernel_rfl) ?_
            have hGW := (Grow.trans (Grow.trans (Grow.trans (Grow.trans (Grow.refl W0) hM7) hM8) hM10) hM11)
            clear hs1 hs2
            go_wp2
            go_meet
            case rel => exact ⟨by simp, hG0.trans hGW⟩
          · refine wpR_op (i := 10) rfl (by rfl) (fun K hK => ?_)
            go_simp
            refine hK.out _ _ (grow_new _ _) ?_
            clear hK K
            try simp only [Act.put, List.setIfInBounds_toArray, List.set_cons_zero, List.set_cons_succ]
            generalize hwM10 : World.alloc wM7 (Obj.cells _ 5) = wM10
            have hM10 : Grow wM7 wM10 := by rw [← hwM10]; exact grow_new _ _
            have hB10 : Nums .u8 wM10 wM10.heap.size (some ⟨wM7.heap.size, 0, none⟩) [C] := by
              rw [← hwM10]
              exact lit_nums wM7 .u8 5 [C]
            clear hwM10
            refine wpR_one (i := 8) (by kernel_rfl) ?_
            refine wpR_op (i := 8) rfl (by rfl) (fun K hK => ?_)
            go_simp
            refine (put_nil _ 1 1 D [2 * ((N : Int) - 3) + 1] wM10 rfl (by decide) (by intro y hy; simp at hy; omega) (hB7.grow hM10) (by rw [flat_one, HX.out]; exact HD.out)).mono ?_
            rintro e wM8 ⟨g8, rfl, hrow8, hM8, _⟩
            have hC8 : Nums .u8 wM8 wM8.heap.size (some ⟨g8, 0, none⟩) (digs (2 * M + 1)) := by
              rw [flat_one, HX.out, ← HD.out] at hrow8
              exact Nums.of_row hrow8
            clear hrow8
            refine hK.out _ _ hM8 ?_
            clear hK K
            try simp only [Act.put, List.setIfInBounds_toArray, List.set_cons_zero, List.set_cons_succ]
            refine wpR_one (i := 11) (by kernel_rfl) ?_
            refine wpR_op (i := 11) rfl (by rfl) (fun K hK => ?_)
            refine wp_grows _ _ rfl ⟨g8, 0, none⟩ D 1 1 _ (digs (2 * M + 1)) [C] rfl rfl HD.out.symm rfl (by decide) hC8 (hB10.grow hM8) (by omega) ?_
            intro A11 c11 wM11 hown11 hM11
            have hs2 : ∀ wg, Grow wM11 wg → (convert 22 9 (.slice A11 (D + 1) c11)).run Try.prog wg = .ok (.string S) wg := fun wg hg => by
              obtain ⟨A', c', e', -, hn', -⟩ := own_nums hown11
              cases e'
              rw [← HSS.out]
              exact conv_at (D + 1) c11 hn' HDL.out wg hg
            clear hown11
            refine hK.out _ _ hM11 ?_
            clear hK K
            try simp only [Act.put, List.setIfInBounds_toArray, List.set_cons_zero, List.set_cons_succ]
            refine wpR_take growOrd (i := 12) (v := ?vf11) rfl (by kernel_rfl) (by kernel_rfl) (by kernel_rfl) (fun _ _ _ h => h) (by rfl) ?hf11 ?rf11
            case hf11 => (intro wg hSw; go_simp <;> with_reducible rfl)
            simp only [Act.put, List.setIfInBounds_toArray, List.set_cons_zero, List.set_cons_succ]
            refine wpR_take growOrd (i := 13) (v := ?vf12) rfl (by kernel_rfl) (by kernel_rfl) (by kernel_rfl) (fun _ _ _ h => h) (by rfl) ?hf12 ?rf12
            case hf12 => (intro wg hSw; go_simp <;> with_reducible rfl)
            simp only [Act.put, List.setIfInBounds_toArray, List.set_cons_zero, List.set_cons_succ]
            refine wpR_done (by kernel_rfl) ?_
            have hGW := (Grow.trans (Grow.trans (Grow.trans (Grow.trans (Grow.refl W0) hM7) hM10) hM8) hM11)
            clear hs1 hs2
            go_wp2
            go_meet
            case rel => exact ⟨by simp, hG0.trans hGW⟩
        · refine wpR_op (i := 10) rfl (by rfl) (fun K hK => ?_)
          go_simp
          refine hK.out _ _ (grow_new _ _) ?_
          clear hK K
          try simp only [Act.put, List.setIfInBounds_toArray, List.set_cons_zero, List.set_cons_succ]
          generalize hwM10 : World.alloc W0 (Obj.cells _ 5) = wM10
          have hM10 : Grow W0 wM10 := by rw [← hwM10]; exact grow_new _ _
          have hB10 : Nums .u8 wM10 wM10.heap.size (some ⟨W0.heap.size, 0, none⟩) [C] := by
            rw [← hwM10]
            exact lit_nums W0 .u8 5 [C]
          clear hwM10
          refine wpR_one (i := 7) (by kernel_rfl) ?_
          refine wpR_op (i := 7) rfl (by rfl) (fun K hK => ?_)
          go_simp
          refine hK.out _ _ (grow_new _ _) ?_
          clear hK K
          try simp only [Act.put, List.setIfInBounds_toArray, List.set_cons_zero, List.set_cons_succ]
          generalize hwM7 : World.alloc wM10 (Obj.cells _ 29) = wM7
          have hM7 : Grow wM10 wM7 := by rw [← hwM7]; exact grow_new _ _
          have hB7 : Nums .u64 wM7 wM7.heap.size (some ⟨wM10.heap.size, 0, none⟩) [2 * ((N : Int) - 3) + 1] := by
            rw [← hwM7]
            exact lit_nums wM10 .u64 29 [2 * ((N : Int) - 3) + 1]
          clear hwM7
          refine wpR_one (i := 8) (by kernel_rfl) ?_
          refine wpR_op (i := 8) rfl (by rfl) (fun K hK => ?_)
          go_simp
          refine (put_nil _ 1 1 D [2 * ((N : Int) - 3) + 1] wM7 rfl (by decide) (by intro y hy; simp at hy; omega) hB7 (by rw [flat_one, HX.out]; exact HD.out)).mono ?_
          rintro e wM8 ⟨g8, rfl, hrow8, hM8, _⟩
          have hC8 : Nums .u8 wM8 wM8.heap.size (some ⟨g8, 0, none⟩) (digs (2 * M + 1)) := by
            rw [flat_one, HX.out, ← HD.out] at hrow8
            exact Nums.of_row hrow8
          clear hrow8
          refine hK.out _ _ hM8 ?_
          clear hK K
          try simp only [Act.put, List.setIfInBounds_toArray, List.set_cons_zero, List.set_cons_succ]
          refine wpR_one (i := 11) (by kernel_rfl) ?_
          refine wpR_op (i := 11) rfl (by rfl) (fun K hK => ?_)
          refine wp_grows _ _ rfl ⟨g8, 0, none⟩ D 1 1 _ (digs (2 * M + 1)) [C] rfl rfl HD.out.symm rfl (by decide) hC8 ((hB10.grow hM7).grow hM8) (by omega) ?_
          intro A11 c11 wM11 hown11 hM11
          have hs2 : ∀ wg, Grow wM11 wg → (convert 22 9 (.slice A11 (D + 1) c11)).run Try.prog wg = .ok (.string S) wg := fun wg hg => by
            obtain ⟨A', c', e', -, hn', -⟩ := own_nums hown11
            cases e'
            rw [← HSS.out]
            exact conv_at (D + 1) c11 hn' HDL.out wg hg
          clear hown11
          refine hK.out _ _ hM11 ?_
          clear hK K
          try simp only [Act.put, List.setIfInBounds_toArray, List.set_cons_zero, List.set_cons_succ]
          refine wpR_take growOrd (i := 12) (v := ?vf13) rfl (by kernel_rfl) (by kernel_rfl) (by kernel_rfl) (fun _ _ _ h => h) (by rfl) ?hf13 ?rf13
          case hf13 => (intro wg hSw; go_simp <;> with_reducible rfl)
          simp only [Act.put, List.setIfInBounds_toArray, List.set_cons_zero, List.set_cons_succ]
          refine wpR_take growOrd (i := 13) (v := ?vf14) rfl (by kernel_rfl) (by kernel_rfl) (by kernel_rfl) (fun _ _ _ h => h) (by rfl) ?hf14 ?rf14
          case hf14 => (intro wg hSw; go_simp <;> with_reducible rfl)
          simp only [Act.put, List.setIfInBounds_toArray, List.set_cons_zero, List.set_cons_succ]
          refine wpR_done (by kernel_rfl) ?_
          have hGW := (Grow.trans (Grow.trans (Grow.trans (Grow.trans (Grow.refl W0) hM10) hM7) hM8) hM11)
          clear hs1 hs2
          go_wp2
          go_meet
          case rel => exact ⟨by simp, hG0.trans hGW⟩
      case rest =>
        obtain ⟨rfl, hgc⟩ := hcut
        have HBC := Lib.hid (HB3.out.trans hgc)
        clear hgc HN3 HE HD HDL HM HCB
        go_wp2_with fail
        go_loopg [11] (n - 2) (fun gk s11 wr => ∃ i : Nat, 2 ≤ i ∧ (i ≤ n ∨ i = 2) ∧ gk = n - i ∧ s11 = .int .i64 i ∧ Hid (∀ j, 2 ≤ j → j < i → ¬ (bs.getD j 0 = bs.getD (j - 1) 0 ∧ bs.getD j 0 = bs.getD (j - 2) 0)) ∧ Grow w wr)
        case atStart => exact ⟨2, Nat.le_refl _, .inr rfl, rfl, rfl, Lib.hid (fun j h1 h2 => by omega), HBC.out⟩
        case round =>
          obtain ⟨i, hi2, hin, rfl, rfl, HNO, hg⟩ := hrel
          have HG := Lib.hid hg
          clear hg
          by_cases hlt : i < n
          · obtain ⟨b, off, rfl, _, hcl⟩ := HR.out.grow HG.out (by rw [HN.out]; omega)
            have hc0 := hcl i (by rw [HN.out]; exact hlt)
            have hc1 := hcl (i - 1) (by rw [HN.out]; omega)
            have hc2 := hcl (i - 2) (by rw [HN.out]; omega)
            have HNX : (bs.getD i 0 = bs.getD (i - 1) 0 ∧ bs.getD i 0 = bs.getD (i - 2) 0) ∨ Hid (∀ j, 2 ≤ j → j < i + 1 → ¬ (bs.getD j 0 = bs.getD (j - 1) 0 ∧ bs.getD j 0 = bs.getD (j - 2) 0)) := by
              by_cases hh : bs.getD i 0 = bs.getD (i - 1) 0 ∧ bs.getD i 0 = bs.getD (i - 2) 0
              · exact .inl hh
              · refine .inr (Lib.hid fun j h1 h2 => ?_)
                by_cases e : j = i
                · subst e; exact hh
                · exact HNO.out j h1 (by omega)
            clear hcl HNO
            generalize bs.getD i 0 = x0 at *
            generalize bs.getD (i - 1) 0 = x1 at *
            generalize bs.getD (i - 2) 0 = x2 at *
            have hl0 : (i : Int) < (n : Int) := by omega
            have hw1 : IntKind.i64.wrap ((i : Int) - 1) = (i : Int) - 1 := by rw [IntKind.wrap_i64]; omega
            have hw2 : IntKind.i64.wrap ((i : Int) - 2) = (i : Int) - 2 := by rw [IntKind.wrap_i64]; omega
            have hp1 : 0 ≤ (i : Int) - 1 := by omega
            have hp2 : 0 ≤ (i : Int) - 2 := by omega
            have hq1 : (i : Int) - 1 < (n : Int) := by omega
            have hq2 : (i : Int) - 2 < (n : Int) := by omega
            have ht1 : ((i : Int) - 1).toNat = i - 1 := by omega
            have ht2 : ((i : Int) - 2).toNat = i - 2 := by omega
            by_cases e1 : x0 = x1
            · subst e1
              by_cases e2 : x0 = x2
              · subst e2
                have hb1 : (x0 == x0) = true := by simp
                clear HNX
                go_wp2_with fail
                go_quiet (fail)
                go_wp2
                go_ret
                exact ⟨rfl, HG.out.drewN _⟩
              · have hb1 : (x0 == x0) = true := by simp
                have hb2 : (x0 == x2) = false := by simpa using e2
                have HNY := HNX.resolve_left (fun h => e2 h.2)
                clear HNX
                go_wp2_with fail
                go_quiet (fail)
                clear hw1 hw2 hp1 hp2 hq1 hq2 ht1 ht2
                go_wp2
                go_roundg (n - (i + 1))
                case rel => exact ⟨i + 1, by omega, .inl (by omega), rfl, by go_num, HNY, HG.out.drewN _⟩
                case measure => omega
            · have hb1 : (x0 == x1) = false := by simpa using e1
              have HNY := HNX.resolve_left (fun h => e1 h.1)
              clear HNX
              go_wp2_with fail
              go_quiet (fail)
              clear hw1 hw2 hp1 hp2 hq1 hq2 ht1 ht2
              go_wp2
              go_roundg (n - (i + 1))
              case rel => exact ⟨i + 1, by omega, .inl (by omega), rfl, by go_num, HNY, HG.out.drewN _⟩
              case measure => omega
          · obtain ⟨w5, hw5⟩ : ∃ w5, w5 = wr := ⟨_, rfl⟩
            subst hw5
            obtain ⟨m, hm⟩ : ∃ m, n = m + 1 := ⟨n - 1, by omega⟩
            obtain ⟨E, hE⟩ : ∃ E, (digs (2 * m)).length = E := ⟨_, rfl⟩
            have hE10 : E ≤ 10 := by have := digs_ten (n := 2 * m) (by omega); omega
            have henc : enc bs = digs (2 * m) ++ bs := enc_none bs m (by rw [HN.out, hm]) (bef_none bs (fun j h1 h2 => HNO.out j h1 (by rw [HN.out] at h2; omega)))
            have HEL := Lib.hid (show (digs (2 * m) ++ bs).length = E + n by rw [List.length_append, hE, HN.out])
            have HEN := Lib.hid (fun W G => (encode_any A n c bs W HN.out (by omega) hnc hc HB.out G).mono fun _ _ x => x.bytes (show _ = E + n by rw [henc]; exact HEL.out))
            rw [henc] at HEN
            have HX := Lib.hid (show (2 * ((n : Int) - 1)).toNat = 2 * m by omega)
            have HE := Lib.hid hE
            have hw0 : IntKind.i64.wrap ((n : Int) - 1) = (n : Int) - 1 := by rw [IntKind.wrap_i64]; omega
            have hw1 : IntKind.u64.wrap ((n : Int) - 1) = (n : Int) - 1 := by rw [IntKind.wrap_u64]; omega
            have hw2 : IntKind.u64.wrap (2 * ((n : Int) - 1)) = 2 * ((n : Int) - 1) := by rw [IntKind.wrap_u64]; omega
            obtain ⟨S, hS⟩ : ∃ S, strOfNums (digs (2 * m) ++ bs) = S := ⟨_, rfl⟩
            have HSS := Lib.hid hS
            clear hS hm hE henc HNO
            go_wp2_with fail
            refine wp_region_R Grow (n := 18) rfl (by kernel_rfl) ?_
            intro W0 hW0e hW0
            have hG0 : Grow w W0 := HG.out.trans hW0
            clear hW0e
            refine wpR_take growOrd (i := 0) (v := ?vf15) rfl (by kernel_rfl) (by kernel_rfl) (by kernel_rfl) (fun _ _ _ h => h) (by rfl) ?hf15 ?rf15
            case hf15 => (intro wg hSw; go_simp <;> with_reducible rfl)
            simp only [Act.put, List.setIfInBounds_toArray, List.set_cons_zero, List.set_cons_succ]
            refine wpR_take growOrd (i := 1) (v := ?vf16) rfl (by kernel_rfl) (by kernel_rfl) (by kernel_rfl) (fun _ _ _ h => h) (by rfl) ?hf16 ?rf16
            case hf16 => (intro wg hSw; go_simp <;> with_reducible rfl)
            simp only [Act.put, List.setIfInBounds_toArray, List.set_cons_zero, List.set_cons_succ]
            refine wpR_take growOrd (i := 2) (v := ?vf17) rfl (by kernel_rfl) (by kernel_rfl) (by kernel_rfl) (fun _ _ _ h => h) (by rfl) ?hf17 ?rf17
            case hf17 => (intro wg hSw; go_simp <;> with_reducible rfl)
            simp only [Act.put, List.setIfInBounds_toArray, List.set_cons_zero, List.set_cons_succ]
            refine wpR_take growOrd (i := 5) (v := ?vf18) rfl (by kernel_rfl) (by kernel_rfl) (by kernel_rfl) (fun _ _ _ h => h) (by rfl) ?hf18 ?rf18
            case hf18 => (intro wg hSw; go_simp <;> with_reducible rfl)
            simp only [Act.put, List.setIfInBounds_toArray, List.set_cons_zero, List.set_cons_succ]
            refine wpR_take growOrd (i := 6) (v := ?vf19) rfl (by kernel_rfl) (by kernel_rfl) (by kernel_rfl) (fun _ _ _ h => h) (by rfl) ?hf19 ?rf19
            case hf19 => (intro wg hSw; go_simp <;> with_reducible rfl)
            simp only [Act.put, List.setIfInBounds_toArray, List.set_cons_zero, List.set_cons_succ]
            refine wpR_take growOrd (i := 7) (v := ?vf20) rfl (by kernel_rfl) (by kernel_rfl) (by kernel_rfl) (fun _ _ _ h => h) (by rfl) ?hf20 ?rf20
            case hf20 => (intro wg hSw; go_simp <;> with_reducible rfl)
            simp only [Act.put, List.setIfInBounds_toArray, List.set_cons_zero, List.set_cons_succ]
            refine wpR_take growOrd (i := 8) (v := ?vf21) rfl (by kernel_rfl) (by kernel_rfl) (by kernel_rfl) (fun _ _ _ h => h) (by rfl) ?hf21 ?rf21
            case hf21 => (intro wg hSw; go_simp <;> with_reducible rfl)
            simp only [Act.put, List.setIfInBounds_toArray, List.set_cons_zero, List.set_cons_succ]
            refine wpR_take growOrd (i := 9) (v := ?vf22) rfl (by kernel_rfl) (by kernel_rfl) (by kernel_rfl) (fun _ _ _ h => h) (by rfl) ?hf22 ?rf22
            case hf22 => (intro wg hSw; go_simp <;> with_reducible rfl)
            simp only [Act.put, List.setIfInBounds_toArray, List.set_cons_zero, List.set_cons_succ]
            refine wpR_take growOrd (i := 12) (v := ?vf23) rfl (by kernel_rfl) (by kernel_rfl) (by kernel_rfl) (fun _ _ _ h => h) (by rfl) ?hf23 ?rf23
            case hf23 => (intro wg hSw; go_simp <;> with_reducible rfl)
            simp only [Act.put, List.setIfInBounds_toArray, List.set_cons_zero, List.set_cons_succ]
            refine wpR_two (i := 3) (j := 10) (by kernel_rfl) ?_ ?_
            · refine wpR_op (i := 3) rfl (by rfl) (fun K hK => ?_)
              go_simp
              refine (HEN.out W0 (HR.out.grow (hG0.trans (Grow.refl W0)))).mono ?_
              rintro e wM3 ⟨A3', c3', rfl, -, -, hn3, hM3⟩
              have hs1 : ∀ wg, Grow wM3 wg → (convert 22 9 (.slice A3' (E + n) c3')).run Try.prog wg = .ok (.string S) wg := fun wg hg => by
                rw [← HSS.out]
                exact conv_at (E + n) c3' hn3 HEL.out wg hg
              refine hK.out _ _ hM3 ?_
              clear hK K
              try simp only [Act.put, List.setIfInBounds_toArray, List.set_cons_zero, List.set_cons_succ]
              refine wpR_take growOrd (i := 4) (v := ?vf24) rfl (by kernel_rfl) (by kernel_rfl) (by kernel_rfl) (fun _ _ _ h => h) (by rfl) ?hf24 ?rf24
              case hf24 => (intro wg hSw; go_simp <;> with_reducible rfl)
              simp only [Act.put, List.setIfInBounds_toArray, List.set_cons_zero, List.set_cons_succ]
              refine wpR_one (i := 10) (by kernel_rfl) ?_
              refine wpR_op (i := 10) rfl (by rfl) (fun K hK => ?_)
              go_simp
              refine hK.out _ _ (grow_new _ _) ?_
              clear hK K
              try simp only [Act.put, List.setIfInBounds_toArray, List.set_cons_zero, List.set_cons_succ]
              generalize hwM10 : World.alloc wM3 (Obj.cells _ 29) = wM10
              have hM10 : Grow wM3 wM10 := by rw [← hwM10]; exact grow_new _ _
              have hB10 : Nums .u64 wM10 wM10.heap.size (some ⟨wM3.heap.size, 0, none⟩) [2 * ((n : Int) - 1)] := by
                rw [← hwM10]
                exact lit_nums wM3 .u64 29 [2 * ((n : Int) - 1)]
              clear hwM10
              refine wpR_one (i := 11) (by kernel_rfl) ?_
              refine wpR_op (i := 11) rfl (by rfl) (fun K hK => ?_)
              go_simp
              refine (put_nil _ 1 1 E [2 * ((n : Int) - 1)] wM10 rfl (by decide) (by intro y hy; simp at hy; omega) hB10 (by rw [flat_one, HX.out]; exact HE.out)).mono ?_
              rintro e wM11 ⟨g11, rfl, hrow11, hM11, _⟩
              have hC11 : Nums .u8 wM11 wM11.heap.size (some ⟨g11, 0, none⟩) (digs (2 * m)) := by
                rw [flat_one, HX.out, ← HE.out] at hrow11
                exact Nums.of_row hrow11
              clear hrow11
              refine hK.out _ _ hM11 ?_
              clear hK K
              try simp only [Act.put, List.setIfInBounds_toArray, List.set_cons_zero, List.set_cons_succ]
              refine wpR_one (i := 13) (by kernel_rfl) ?_
              refine wpR_op (i := 13) rfl (by rfl) (fun K hK => ?_)
              refine wp_grows _ _ rfl ⟨g11, 0, none⟩ E n c A (digs (2 * m)) bs rfl rfl HE.out.symm HN.out.symm (by omega) hC11 (HR.out.grow (hG0.trans (Grow.trans (Grow.trans (Grow.trans (Grow.refl W0) hM3) hM10) hM11))) (by omega) ?_
              intro A13 c13 wM13 hown13 hM13
              have hs2 : ∀ wg, Grow wM13 wg → (convert 22 9 (.slice A13 (E + n) c13)).run Try.prog wg = .ok (.string S) wg := fun wg hg => by
                obtain ⟨A', c', e', -, hn', -⟩ := own_nums hown13
                cases e'
                rw [← HSS.out]
                exact conv_at (E + n) c13 hn' HEL.out wg hg
              clear hown13
              refine hK.out _ _ hM13 ?_
              clear hK K
              try simp only [Act.put, List.setIfInBounds_toArray, List.set_cons_zero, List.set_cons_succ]
              refine wpR_take growOrd (i := 14) (v := ?vf25) rfl (by kernel_rfl) (by kernel_rfl) (by kernel_rfl) (fun _ _ _ h => h) (by rfl) ?hf25 ?rf25
              case hf25 => (intro wg hSw; go_simp <;> with_reducible rfl)
              simp only [Act.put, List.setIfInBounds_toArray, List.set_cons_zero, List.set_cons_succ]
              refine wpR_take growOrd (i := 15) (v := ?vf26) rfl (by kernel_rfl) (by kernel_rfl) (by kernel_rfl) (fun _ _ _ h => h) (by rfl) ?hf26 ?rf26
              case hf26 => (intro wg hSw; go_simp <;> with_reducible rfl)
              simp only [Act.put, List.setIfInBounds_toArray, List.set_cons_zero, List.set_cons_succ]
              refine wpR_take growOrd (i := 16) (v := ?vf27) rfl (by kernel_rfl) (by kernel_rfl) (by kernel_rfl) (fun _ _ _ h => h) (by rfl) ?hf27 ?rf27
              case hf27 => (intro wg hSw; go_simp <;> with_reducible rfl)
              simp only [Act.put, List.setIfInBounds_toArray, List.set_cons_zero, List.set_cons_succ]
              refine wpR_take growOrd (i := 17) (v := ?vf28) rfl (by kernel_rfl) (by kernel_rfl) (by kernel_rfl) (fun _ _ _ h => h) (by rfl) ?hf28 ?rf28
              case hf28 => (intro wg hSw; go_simp <;> with_reducible rfl)
              simp only [Act.put, List.setIfInBounds_toArray, List.set_cons_zero, List.set_cons_succ]
              refine wpR_done (by kernel_rfl) ?_
              have hGW := (Grow.trans (Grow.trans (Grow.trans (Grow.trans (Grow.refl W0) hM3) hM10) hM11) hM13)
              clear hs1 hs2
              go_wp2
              go_ret
              exact ⟨rfl, hG0.trans hGW⟩
            · refine wpR_op (i := 10) rfl (by rfl) (fun K hK => ?_)
              go_simp
              refine hK.out _ _ (grow_new _ _) ?_
              clear hK K
              try simp only [Act.put, List.setIfInBounds_toArray, List.set_cons_zero, List.set_cons_succ]
              generalize hwM10 : World.alloc W0 (Obj.cells _ 29) = wM10
              have hM10 : Grow W0 wM10 := by rw [← hwM10]; exact grow_new _ _
              have hB10 : Nums .u64 wM10 wM10.heap.size (some ⟨W0.heap.size, 0, none⟩) [2 * ((n : Int) - 1)] := by
                rw [← hwM10]
                exact lit_nums W0 .u64 29 [2 * ((n : Int) - 1)]
              clear hwM10
              refine wpR_one (i := 3) (by kernel_rfl) ?_
              refine wpR_op (i := 3) rfl (by rfl) (fun K hK => ?_)
              go_simp
              refine (HEN.out wM10 (HR.out.grow (hG0.trans (Grow.trans (Grow.refl W0) hM10)))).mono ?_
              rintro e wM3 ⟨A3', c3', rfl, -, -, hn3, hM3⟩
              have hs1 : ∀ wg, Grow wM3 wg → (convert 22 9 (.slice A3' (E + n) c3')).run Try.prog wg = .ok (.string S) wg := fun wg hg => by
                rw [← HSS.out]
                exact conv_at (E + n) c3' hn3 HEL.out wg hg
              refine hK.out _ _ hM3 ?_
              clear hK K
              try simp only [Act.put, List.setIfInBounds_toArray, List.set_cons_zero, List.set_cons_succ]
              refine wpR_take growOrd (i := 4) (v := ?vf29) rfl (by kernel_rfl) (by kernel_rfl) (by kernel_rfl) (fun _ _ _ h => h) (by rfl) ?hf29 ?rf29
              case hf29 => (intro wg hSw; go_simp <;> with_reducible rfl)
              simp only [Act.put, List.setIfInBounds_toArray, List.set_cons_zero, List.set_cons_succ]
              refine wpR_one (i := 11) (by kernel_rfl) ?_
              refine wpR_op (i := 11) rfl (by rfl) (fun K hK => ?_)
              go_simp
              refine (put_nil _ 1 1 E [2 * ((n : Int) - 1)] wM3 rfl (by decide) (by intro y hy; simp at hy; omega) (hB10.grow hM3) (by rw [flat_one, HX.out]; exact HE.out)).mono ?_
              rintro e wM11 ⟨g11, rfl, hrow11, hM11, _⟩
              have hC11 : Nums .u8 wM11 wM11.heap.size (some ⟨g11, 0, none⟩) (digs (2 * m)) := by
                rw [flat_one, HX.out, ← HE.out] at hrow11
                exact Nums.of_row hrow11
              clear hrow11
              refine hK.out _ _ hM11 ?_
              clear hK K
              try simp only [Act.put, List.setIfInBounds_toArray, List.set_cons_zero, List.set_cons_succ]
              refine wpR_one (i := 13) (by kernel_rfl) ?_
              refine wpR_op (i := 13) rfl (by rfl) (fun K hK => ?_)
              refine wp_grows _ _ rfl ⟨g11, 0, none⟩ E n c A (digs (2 * m)) bs rfl rfl HE.out.symm HN.out.symm (by omega) hC11 (HR.out.grow (hG0.trans (Grow.trans (Grow.trans (Grow.trans (Grow.refl W0) hM10) hM3) hM11))) (by omega) ?_
              intro A13 c13 wM13 hown13 hM13
              have hs2 : ∀ wg, Grow wM13 wg → (convert 22 9 (.slice A13 (E + n) c13)).run Try.prog wg = .ok (.string S) wg := fun wg hg => by
                obtain ⟨A', c', e', -, hn', -⟩ := own_nums hown13
                cases e'
                rw [← HSS.out]
                exact conv_at (E + n) c13 hn' HEL.out wg hg
              clear hown13
              refine hK.out _ _ hM13 ?_
              clear hK K
              try simp only [Act.put, List.setIfInBounds_toArray, List.set_cons_zero, List.set_cons_succ]
              refine wpR_take growOrd (i := 14) (v := ?vf30) rfl (by kernel_rfl) (by kernel_rfl) (by kernel_rfl) (fun _ _ _ h => h) (by rfl) ?hf30 ?rf30
              case hf30 => (intro wg hSw; go_simp <;> with_reducible rfl)
              simp only [Act.put, List.setIfInBounds_toArray, List.set_cons_zero, List.set_cons_succ]
              refine wpR_take growOrd (i := 15) (v := ?vf31) rfl (by kernel_rfl) (by kernel_rfl) (by kernel_rfl) (fun _ _ _ h => h) (by rfl) ?hf31 ?rf31
              case hf31 => (intro wg hSw; go_simp <;> with_reducible rfl)
              simp only [Act.put, List.setIfInBounds_toArray, List.set_cons_zero, List.set_cons_succ]
              refine wpR_take growOrd (i := 16) (v := ?vf32) rfl (by kernel_rfl) (by kernel_rfl) (by kernel_rfl) (fun _ _ _ h => h) (by rfl) ?hf32 ?rf32
              case hf32 => (intro wg hSw; go_simp <;> with_reducible rfl)
              simp only [Act.put, List.setIfInBounds_toArray, List.set_cons_zero, List.set_cons_succ]
              refine wpR_take growOrd (i := 17) (v := ?vf33) rfl (by kernel_rfl) (by kernel_rfl) (by kernel_rfl) (fun _ _ _ h => h) (by rfl) ?hf33 ?rf33
              case hf33 => (intro wg hSw; go_simp <;> with_reducible rfl)
              simp only [Act.put, List.setIfInBounds_toArray, List.set_cons_zero, List.set_cons_succ]
              refine wpR_done (by kernel_rfl) ?_
              have hGW := (Grow.trans (Grow.trans (Grow.trans (Grow.trans (Grow.refl W0) hM10) hM3) hM11) hM13)
              clear hs1 hs2
              go_wp2
              go_ret
              exact ⟨rfl, hG0.trans hGW⟩

theorem short_walk (C x : Int) (A : Option Addr) (n c : Nat) (bs : List Int) (w : World) (hC0 : 0 ≤ C) (hC1 : C < 256) (h1 : bs.length = n) (hn : n ≤ 9223372036854775807) (hnc : n ≤ c) (hc : A = none → c = 0) (b1 : Byt bs) (r1 : Nums .u8 w w.heap.size A bs) :
    Calls Try.prog 6 #[.int .u8 C, .int .i64 x, .slice A n c] w (Fine w) := by
  by_cases h : 3 ≤ x ∧ x ≤ 5000 ∧ n ≤ 1000 ∧ 1 ≤ n
  · obtain ⟨h3, h4, h5, h6⟩ := h
    obtain ⟨N, rfl⟩ := Int.eq_ofNat_of_zero_le (show 0 ≤ x by omega)
    exact short_yes C N A n c bs w hC0 hC1 (by omega) (by omega) h1 h6 h5 hnc hc b1 r1
  · exact short_no C x A n c w hn (by omega)
end Go.Proofs.Ytoapfegmipopkaa
