/-
  The small case comes to true.
-/
import Derived.Test.YthmhpjjpjgmdaaaDoorSame
namespace Go.Proofs.YthmhpjjpjgmdaaaDoor
open Go.RowKit Go.Lib
set_option linter.unusedSimpArgs false
set_option linter.unusedVariables false

theorem k_read {l : List UInt8} {xs : List Int} {r : List UInt8} {ok : Bool} (h : mkL (readQ l) = (xs, r, ok)) (hl : l.length ≤ 100000) (n : Nat) (hn : xs.length = n) (w : World) (hL : Laid w) :
    Calls Tryd.prog 11 #[.string ⟨l.toArray⟩] w fun e w' => ∃ A c, e = .returned (.tuple #[.slice A n c, .string ⟨r.toArray⟩, .bool ok]) ∧ n ≤ c ∧ Nums .i64 w' w'.heap.size A xs ∧ Grow w w' := by
  subst hn
  exact read_says h hl w hL
set_option maxRecDepth 100000
theorem sm_read0 : mkL (readQ [39, 97, 39, 39, 39, 120]) = ([97, 39], [120], true) := by decide
theorem sm_read1 : mkL (readQ [39, 39]) = ([], [], true) := by decide
theorem sm_read2 : mkL (readQ [39, 97]) = ([], [], false) := by decide
theorem sm_read3 : mkL (readQ [39, 97, 39, 39]) = ([], [], false) := by decide
theorem sm_read4 : mkL (readQ [39, 255, 39]) = ([], [], false) := by decide
theorem sm_text0 : textQ [97, 39, 8592] = [39, 97, 39, 39, 226, 134, 144, 39] ∧ List.all [97, 39, 8592] signZ = true := by decide
theorem sm_text1 : textQ [55296] = [] ∧ List.all [55296] signZ = false := by decide
theorem sm_text2 : textQ [] = [39, 39] ∧ List.all [] signZ = true := by decide

set_option maxRecDepth 100000 in
set_option maxHeartbeats 6400000 in
theorem small_any (w : World) (hL : Laid w) : Calls Tryd.prog 8 #[] w fun e w' => e = .returned (.bool true) ∧ Grow w w' := by
  have HL := Lib.hid hL
  clear hL
  have HT0 := Lib.hid (fun A n c W (h1 : ([97, 39, 8592] : List Int).length = n) h2 => text_says A n c [97, 39, 8592] W h1 (by rw [← h1]; decide) h2 sm_text0.1 sm_text0.2)
  have HT1 := Lib.hid (fun A n c W (h1 : ([55296] : List Int).length = n) h2 => text_says A n c [55296] W h1 (by rw [← h1]; decide) h2 sm_text1.1 sm_text1.2)
  have HT2 := Lib.hid (fun A n c W (h1 : ([] : List Int).length = n) h2 => text_says A n c [] W h1 (by rw [← h1]; decide) h2 sm_text2.1 sm_text2.2)
  have HC0 := Lib.hid (k_read sm_read0 (by decide) 2 rfl)
  have HC1 := Lib.hid (k_read sm_read1 (by decide) 0 rfl)
  have HC2 := Lib.hid (k_read sm_read2 (by decide) 0 rfl)
  have HC3 := Lib.hid (k_read sm_read3 (by decide) 0 rfl)
  have HC4 := Lib.hid (k_read sm_read4 (by decide) 0 rfl)
  have HS := Lib.hid (fun A A' c c' W h h' => same_eq A A' 2 c c' [97, 39] W rfl (by decide) h h')
  go_enter Tryd.func8, Tryd.ntmps8
  go_wp2_with fail
  refine (HT0.out _ 3 3 _ rfl (nums_cells (xs := [97, 39, 8592]) (heap_alloc_new w _))).mono ?_
  rintro x w1 ⟨rfl, hg⟩
  have HG1 := Lib.hid ((grow_new _ _).trans hg)
  clear hg HT0
  go_wp2_with fail
  refine (HT1.out _ 1 1 _ rfl (nums_cells (xs := [55296]) (heap_alloc_new w1 _))).mono ?_
  rintro x w2 ⟨rfl, hg⟩
  have HG2 := Lib.hid ((HG1.out.trans (grow_new _ _)).trans hg)
  clear hg HT1 HG1
  go_wp2_with fail
  refine (HC0.out _ (HL.out.grow HG2.out)).mono ?_
  rintro x w3 ⟨A0, c0, rfl, hcc, hd, hg⟩
  have HG3 := Lib.hid (HG2.out.trans hg)
  have HN3 := Lib.hid hd
  clear hd hg hcc HC0 HG2
  go_wp2_with fail
  refine (HC1.out _ (HL.out.grow HG3.out)).mono ?_
  rintro x w4 ⟨A1, c1, rfl, hcc, hd, hg⟩
  have HG4 := Lib.hid (HG3.out.trans hg)
  have HN4 := Lib.hid (HN3.out.grow hg)
  clear hd hg hcc HC1 HG3 HN3
  go_wp2_with fail
  refine (HC2.out _ (HL.out.grow HG4.out)).mono ?_
  rintro x w5 ⟨A2, c2, rfl, hcc, hd, hg⟩
  have HG5 := Lib.hid (HG4.out.trans hg)
  have HN5 := Lib.hid (HN4.out.grow hg)
  clear hd hg hcc HC2 HG4 HN4
  go_wp2_with fail
  refine (HC3.out _ (HL.out.grow HG5.out)).mono ?_
  rintro x w6 ⟨A3, c3, rfl, hcc, hd, hg⟩
  have HG6 := Lib.hid (HG5.out.trans hg)
  have HN6 := Lib.hid (HN5.out.grow hg)
  clear hd hg hcc HC3 HG5 HN5
  go_wp2_with fail
  refine (HC4.out _ (HL.out.grow HG6.out)).mono ?_
  rintro x w7 ⟨A4, c4, rfl, hcc, hd, hg⟩
  have HG7 := Lib.hid (HG6.out.trans hg)
  have HN7 := Lib.hid (HN6.out.grow hg)
  clear hd hg hcc HC4 HG6 HN6
  go_wp2_with fail
  refine (HT2.out none 0 0 _ rfl Nums.none_).mono ?_
  rintro x w8 ⟨rfl, hg⟩
  have HG8 := Lib.hid (HG7.out.trans hg)
  have HN8 := Lib.hid (HN7.out.grow hg)
  clear hg HT2 HG7 HN7
  go_wp2_with fail
  refine (HS.out _ _ _ _ _ (HN8.out.grow (grow_new _ _)) (nums_cells (xs := [97, 39]) (heap_alloc_new w8 _))).mono ?_
  rintro x w9 ⟨rfl, hg⟩
  have HG9 := Lib.hid ((HG8.out.trans (grow_new _ _)).trans hg)
  clear hg HS HG8 HN8
  go_wp2
  go_ret
  exact ⟨rfl, HG9.out⟩
end Go.Proofs.YthmhpjjpjgmdaaaDoor
