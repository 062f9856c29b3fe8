/-
  The small case of the laws comes out right.
-/
import Derived.Test.YtbediaeaodjnmaaRowIn
namespace Go.Proofs.Ytbediaeaodjnmaa
open Go.RowKit Go.Lib
set_option linter.unusedSimpArgs false
set_option linter.unusedVariables false

set_option maxRecDepth 100000
theorem s1 : cnt [2, 3] = 6 ∧ rightB [2, 3] = true := by decide +kernel
theorem s2 : cnt [] = 1 ∧ rightB [] = true := by decide +kernel
theorem s3 : cnt [0, 1048576, 1048576] = 0 ∧ rightB [0, 1048576, 1048576] = true := by decide +kernel
theorem s4 : cnt [1024, 1025] = 0 ∧ rightB [1024, 1025] = false := by decide +kernel
theorem s5 : cnt [-1, 0] = 0 ∧ rightB [-1, 0] = false := by decide +kernel
theorem s6 : cnt (List.replicate 17 (0 : Int)) = 0 ∧ rightB (List.replicate 17 (0 : Int)) = false := by decide +kernel
theorem s7 : plc [2, 3] [1, 2] = 5 ∧ plcB [2, 3] [1, 2] = true := by decide +kernel
theorem s8 : plc [2, 3] [1, 3] = 0 ∧ plcB [2, 3] [1, 3] = false := by decide +kernel
theorem s9 : plc [2, 3] [1] = 0 ∧ plcB [2, 3] [1] = false := by decide +kernel
theorem s10 : ind [2, 3] 5 = [1, 2] ∧ indB [2, 3] 5 = true := by decide +kernel
theorem s11 : plc [] [] = 0 ∧ plcB [] [] = true := by decide +kernel
theorem s12 : ind [2, 0] 0 = [] ∧ indB [2, 0] 0 = false := by decide +kernel

theorem lit2_says {xs ys : List Int} {C : Nat} {b : Bool} (h : plc xs ys = C ∧ plcB xs ys = b) {n c n' c' : Nat} (w : World) (hn : xs.length = n) (hm : n ≤ 9223372036854775807) (hn' : ys.length = n') (hm' : n' ≤ 9223372036854775807) :
    Calls Try.prog 11 #[.slice (some ⟨w.heap.size, 0, none⟩) n c, .slice (some ⟨w.heap.size + 1, 0, none⟩) n' c'] ((w.alloc (.cells (xs.map iv).toArray 3)).alloc (.cells (ys.map iv).toArray 3)) (fun e w' => e = .returned (.tuple #[.int .i64 (C : Nat), .bool b]) ∧ Grow w w') := by
  have e : (w.alloc (.cells (xs.map iv).toArray 3)).heap.size = w.heap.size + 1 := by simp
  have h2 := nums_lit (w.alloc (.cells (xs.map iv).toArray 3)) ys
  rw [e] at h2
  refine (place_says h _ hn hm hn' hm' ((nums_lit w xs).grow (grow_new _ _)) h2).mono fun _ _ ⟨h1, h2⟩ => ⟨h1, ((grow_new _ _).trans (grow_new _ _)).trans h2⟩

set_option maxHeartbeats 3200000 in
theorem small_any (w : World) : Calls Try.prog 8 #[] w (Fine w) := by
  have hmk : ∀ W, Sem.run Try.prog (Instr.makeSlice 22 (.int .i64 17) (.int .i64 17)) W = _ := fun W => run_make_row' (P := Try.prog) 22 3 (.int .i64 0) 8 Try.underlying22 i_info3 rfl .i64 .i64 17 (by omega) (by omega) W
  obtain ⟨w0, hw0⟩ : ∃ w0, w0 = w := ⟨_, rfl⟩
  have HG0 := Lib.hid (show Grow w w0 by rw [hw0]; exact Grow.refl _)
  subst hw0
  go_enter Try.func8, Try.ntmps8
  go_wp2_with fail
  refine (count_says s1 _ rfl (by decide) (nums_lit _ [2, 3])).mono ?_
  rintro e w1 ⟨rfl, hw⟩
  have HG1 := Lib.hid (HG0.out.trans (show Grow w0 w1 by rw [hw]; exact grow_new _ _))
  clear hw HG0
  go_wp2_with fail
  refine (count_says s2 _ rfl (by decide) Nums.none_).mono ?_
  rintro e w2 ⟨rfl, hw⟩
  have HG2 := Lib.hid (HG1.out.trans (show Grow w1 w2 by rw [hw]; exact Grow.refl _))
  clear hw HG1
  go_wp2_with fail
  refine (count_says s3 _ rfl (by decide) (nums_lit _ [0, 1048576, 1048576])).mono ?_
  rintro e w3 ⟨rfl, hw⟩
  have HG3 := Lib.hid (HG2.out.trans (show Grow w2 w3 by rw [hw]; exact grow_new _ _))
  clear hw HG2
  go_wp2_with fail
  refine (count_says s4 _ rfl (by decide) (nums_lit _ [1024, 1025])).mono ?_
  rintro e w4 ⟨rfl, hw⟩
  have HG4 := Lib.hid (HG3.out.trans (show Grow w3 w4 by rw [hw]; exact grow_new _ _))
  clear hw HG3
  go_wp2_with fail
  refine (count_says s5 _ rfl (by decide) (nums_lit _ [-1, 0])).mono ?_
  rintro e w5 ⟨rfl, hw⟩
  have HG5 := Lib.hid (HG4.out.trans (show Grow w4 w5 by rw [hw]; exact grow_new _ _))
  clear hw HG4
  go_wp2_with fail
  refine (count_says s6 _ rfl (by decide) (nums_made _ 17)).mono ?_
  rintro e w6 ⟨rfl, hw⟩
  have HG6 := Lib.hid (HG5.out.trans (show Grow w5 w6 by rw [hw]; exact grow_new _ _))
  clear hw HG5
  go_wp2_with fail
  refine (lit2_says s7 w6 rfl (by decide) rfl (by decide)).mono ?_
  rintro e w7 ⟨rfl, hg⟩
  have HG7 := Lib.hid (HG6.out.trans hg)
  clear hg HG6
  go_wp2_with fail
  refine (lit2_says s8 w7 rfl (by decide) rfl (by decide)).mono ?_
  rintro e w8 ⟨rfl, hg⟩
  have HG8 := Lib.hid (HG7.out.trans hg)
  clear hg HG7
  go_wp2_with fail
  refine (lit2_says s9 w8 rfl (by decide) rfl (by decide)).mono ?_
  rintro e w9 ⟨rfl, hg⟩
  have HG9 := Lib.hid (HG8.out.trans hg)
  clear hg HG8
  go_wp2_with fail
  refine (index_says s10 (k := 2) rfl _ rfl (by decide) (nums_lit _ [2, 3]) (by decide)).mono ?_
  rintro e w10 ⟨A10, rfl, hnu, hg⟩
  have HG10 := Lib.hid (HG9.out.trans ((grow_new _ _).trans hg))
  have HX10 := Lib.hid hnu
  clear hg hnu HG9
  go_wp2_with fail
  refine (place_says s11 _ rfl (by decide) rfl (by decide) Nums.none_ Nums.none_).mono ?_
  rintro e w11 ⟨rfl, hg⟩
  have HG11 := Lib.hid (HG10.out.trans hg)
  have HY11 := Lib.hid (HX10.out.grow hg)
  clear hg
  go_wp2_with fail
  refine (index_says s12 (k := 0) rfl _ rfl (by decide) (nums_lit _ [2, 0]) (by decide)).mono ?_
  rintro e w12 ⟨A12, rfl, hnu, hg⟩
  have HG12 := Lib.hid (HG11.out.trans ((grow_new _ _).trans hg))
  have HX12 := Lib.hid hnu
  have HZ12 := Lib.hid ((HY11.out.grow (grow_new _ _)).grow hg)
  clear hg hnu HG11
  go_wp2_with fail
  refine (same_eq A10 _ 2 _ _ [1, 2] _ rfl (by decide) (HZ12.out.grow (grow_new _ _)) (nums_lit _ [1, 2])).mono ?_
  rintro e w13 ⟨rfl, hg⟩
  have HG13 := Lib.hid (HG12.out.trans ((grow_new _ _).trans hg))
  clear hg
  go_wp2
  go_ret
  exact ⟨rfl, HG13.out⟩
end Go.Proofs.Ytbediaeaodjnmaa
