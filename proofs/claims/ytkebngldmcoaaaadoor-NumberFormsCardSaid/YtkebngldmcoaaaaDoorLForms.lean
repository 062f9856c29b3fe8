/-
  NumberForms comes to true, whatever it is called with.
-/
import Derived.Test.YtkebngldmcoaaaaDoorSmall
import Derived.Deep.CutBlock
import Derived.Deep.DeepCutAuto
namespace Go.Proofs.YtkebngldmcoaaaaDoor
open Go.RowKit Go.Lib
set_option linter.unusedSimpArgs false
set_option linter.unusedVariables false

theorem norm_rightB {n : Int} (hn : In n) {q e : Int} (h : norm n 0 = ((q, e), true)) : rightB q e = true ∧ In q ∧ In e := by
  have h1 := norm_in (e := 0) hn
  have h2 := norm_exp_in (e := 0) hn
  have h3 := rightB_of (norm_right (e := 0) hn (by rw [h]))
  rw [h] at h1 h2 h3
  exact ⟨h3, h1, h2⟩

set_option maxRecDepth 100000 in
set_option maxHeartbeats 3200000 in
theorem lforms_walk (n : Int) (w : World) (hn : In n) (hL : Laid w) : Calls Tryd.prog 5 #[.int .i64 n] w fun e w' => e = .returned (.bool true) ∧ Grow w w' := by
  have HL := Lib.hid hL
  obtain ⟨⟨⟨q, e⟩, b⟩, hd⟩ : ∃ r, norm n 0 = r := ⟨_, rfl⟩
  obtain rfl : b = true := by have := norm_of_int hn; rw [hd] at this; exact this
  obtain ⟨hr, hq, he⟩ := norm_rightB hn hd
  have HO := Lib.hid (fun W => of_any n W hn)
  rw [hd] at HO
  have HI := Lib.hid (fun A c W (h1 : Nums .i64 W W.heap.size A [n]) (h2 : Pows W) => ints_any A 1 c [n] W rfl (by omega) h1 (by simpa using hn) h2)
  rw [show intsT [n] = num n by simp [intsT, join_one]] at HI
  have hlu := num_len hn
  have hlt := text_len (e := e) hq
  have HR1 := Lib.hid (k_read (l := num n) (ds := [(q, e)]) (r := []) (ok := true) (by rw [int_back hn, hd]; rfl) (by omega) 1 rfl)
  have HT := Lib.hid (fun W (h : Pows W) => text_any q e W hq he h)
  have HR2 := Lib.hid (k_read (l := text q e) (ds := [(q, e)]) (r := []) (ok := true) (by rw [text_back hq hr]; rfl) (by omega) 1 rfl)
  have HR3 := Lib.hid (k_read (l := 48 :: num n) (ds := []) (r := []) (ok := false) (by rw [nought_ahead hn]; rfl) (by simp only [List.length_cons]; omega) 0 rfl)
  have hcat : (⟨#[48]⟩ : ByteArray) ++ ⟨(num n).toArray⟩ = ⟨(48 :: num n).toArray⟩ := str_app [48] (num n)
  have hs : ¬ 9223372036854775807 < 1 + (num n).length := by omega
  have heq := dec_same q e
  have HS := Lib.hid (fun W h => small_any W h)
  clear hL hd hr hq he hlu hlt hn
  generalize num n = U at *
  generalize text q e = T at *
  go_enter Tryd.func5, Tryd.ntmps5
  go_wp2_with fail
  refine (HS.out _ HL.out).mono ?_
  rintro x w1 ⟨rfl, hg⟩
  have HG1 := Lib.hid hg
  clear hg HS
  go_wp2_with fail
  refine (HO.out _).mono ?_
  rintro x w2 ⟨rfl, hg⟩
  have HG2 := Lib.hid (HG1.out.trans hg)
  clear hg HO HG1
  have HX2 := Lib.hid (boxed_new w2 (.int .i64 q) (.int .i64 e) 29)
  have HG2' := Lib.hid (grow_new w2 (.cells #[.int .i64 q, .int .i64 e] 29))
  go_wp2_with fail
  refine (HI.out _ _ _ (nums_lit2 w2 _ n _) ((HL.out.grow (HG2.out.trans HG2'.out)).grow (grow_new _ _)).pows).mono ?_
  rintro x w3 ⟨rfl, hg⟩
  have HG3 := Lib.hid ((HG2.out.trans HG2'.out).trans ((grow_new _ _).trans hg))
  have HX3 := Lib.hid ((HX2.out.grow (grow_new _ _)).grow hg)
  clear hg HX2 HG2 HG2'
  go_wp2_with fail
  refine (HR1.out _ (HL.out.grow HG3.out)).mono ?_
  rintro x w4 ⟨A4, c4, rfl, hd4, hg⟩
  have HG4 := Lib.hid (HG3.out.trans hg)
  have hx4 := HX3.out.grow hg
  have x0 := hx4.fst
  have x1 := hx4.snd
  have HX4 := Lib.hid hx4
  have HD4 := Lib.hid hd4
  clear hg hd4 hx4 HX3 HG3 HR1
  go_wp2_with fail
  refine (HT.out _ (HL.out.grow HG4.out).pows).mono ?_
  rintro x w5 ⟨rfl, hg⟩
  have HG5 := Lib.hid (HG4.out.trans hg)
  have HX5 := Lib.hid (HX4.out.grow hg)
  have HD5 := Lib.hid (HD4.out.grow hg)
  clear hg HX4 HD4 HG4 HT x0 x1
  go_wp2_with fail
  refine (HR2.out _ (HL.out.grow HG5.out)).mono ?_
  rintro x w6 ⟨A6, c6, rfl, hd6, hg⟩
  have HG6 := Lib.hid (HG5.out.trans hg)
  have HX6 := Lib.hid (HX5.out.grow hg)
  have HD6 := Lib.hid (HD5.out.grow hg)
  have HE6 := Lib.hid hd6
  clear hg hd6 HX5 HD5 HG5 HR2
  go_wp2_with fail
  refine (HI.out _ _ _ (nums_lit1 w6 n _) ((HL.out.grow HG6.out).grow (grow_new _ _)).pows).mono ?_
  rintro x w7 ⟨rfl, hg⟩
  have HG7 := Lib.hid (HG6.out.trans ((grow_new _ _).trans hg))
  have HX7 := Lib.hid ((HX6.out.grow (grow_new _ _)).grow hg)
  have HD7 := Lib.hid ((HD6.out.grow (grow_new _ _)).grow hg)
  have HE7 := Lib.hid ((HE6.out.grow (grow_new _ _)).grow hg)
  clear hg HX6 HD6 HE6 HG6 HI
  go_wp2_with fail
  refine (HR3.out _ (HL.out.grow HG7.out)).mono ?_
  rintro x w8 ⟨A8, c8, rfl, hd8, hg⟩
  have HG8 := Lib.hid (HG7.out.trans hg)
  have HX8 := Lib.hid (HX7.out.grow hg)
  obtain ⟨ba, oa, rfl, la, a0, a1⟩ := decs_one (HD7.out.grow hg)
  obtain ⟨bb, ob, rfl, lb, b0, b1⟩ := decs_one (HE7.out.grow hg)
  have HLA := Lib.hid la
  have HLB := Lib.hid lb
  have HA0 := Lib.hid a0
  have HA1 := Lib.hid a1
  have HB0 := Lib.hid b0
  have HB1 := Lib.hid b1
  clear hg hd8 HX7 HD7 HE7 HG7 HR3 a0 a1 b0 b1 la lb
  go_wp2_with fail
  refine wp_region_R Grow (n := 36) rfl (by kernel_rfl) ?_
  intro W0 hW0e hW0
  have hG0 : Grow w8 W0 := hW0
  have pa0 : ∀ wg, Grow W0 wg → wg.cell? ⟨ba, oa, none⟩ = some (.int .i64 q) := fun wg h => ((hG0.trans h).cell (p := ⟨ba, oa, none⟩) HLA.out).trans HA0.out
  have pa1 : ∀ wg, Grow W0 wg → wg.cell? ⟨ba, oa + 1, none⟩ = some (.int .i64 e) := fun wg h => ((hG0.trans h).cell (p := ⟨ba, oa + 1, none⟩) HLA.out).trans HA1.out
  have pb0 : ∀ wg, Grow W0 wg → wg.cell? ⟨bb, ob, none⟩ = some (.int .i64 q) := fun wg h => ((hG0.trans h).cell (p := ⟨bb, ob, none⟩) HLB.out).trans HB0.out
  have pb1 : ∀ wg, Grow W0 wg → wg.cell? ⟨bb, ob + 1, none⟩ = some (.int .i64 e) := fun wg h => ((hG0.trans h).cell (p := ⟨bb, ob + 1, none⟩) HLB.out).trans HB1.out
  have px0 : ∀ wg, Grow W0 wg → wg.cell? ⟨w2.heap.size, 0, none⟩ = some (.int .i64 q) := fun wg h => (HX8.out.grow (hG0.trans h)).fst
  have px1 : ∀ wg, Grow W0 wg → wg.cell? ⟨w2.heap.size, 1, none⟩ = some (.int .i64 e) := fun wg h => (HX8.out.grow (hG0.trans h)).snd
  clear hW0e
  refine wpR_take growOrd (i := 0) (v := ?vf1) rfl (by kernel_rfl) (by kernel_rfl) (by kernel_rfl) (fun _ _ _ h => h) (by rfl) ?hf1 ?rf1
  case hf1 => (intro wg hSw; go_simp <;> with_reducible rfl)
  simp only [Act.put, List.setIfInBounds_toArray, List.set_cons_zero, List.set_cons_succ]
  refine wpR_take growOrd (i := 1) (v := ?vf2) rfl (by kernel_rfl) (by kernel_rfl) (by kernel_rfl) (fun _ _ _ h => h) (by rfl) ?hf2 ?rf2
  case hf2 => (intro wg hSw; go_simp <;> with_reducible rfl)
  simp only [Act.put, List.setIfInBounds_toArray, List.set_cons_zero, List.set_cons_succ]
  refine wpR_take growOrd (i := 2) (v := ?vf3) rfl (by kernel_rfl) (by kernel_rfl) (by kernel_rfl) (fun _ _ _ h => h) (by rfl) ?hf3 ?rf3
  case hf3 => (intro wg hSw; go_simp <;> with_reducible rfl)
  simp only [Act.put, List.setIfInBounds_toArray, List.set_cons_zero, List.set_cons_succ]
  refine wpR_take growOrd (i := 3) (v := ?vf4) rfl (by kernel_rfl) (by kernel_rfl) (by kernel_rfl) (fun _ _ _ h => h) (by rfl) ?hf4 ?rf4
  case hf4 => (intro wg hSw; go_simp <;> with_reducible rfl)
  simp only [Act.put, List.setIfInBounds_toArray, List.set_cons_zero, List.set_cons_succ]
  refine wpR_take growOrd (i := 4) (v := ?vf5) rfl (by kernel_rfl) (by kernel_rfl) (by kernel_rfl) (fun _ _ _ h => h) (by rfl) ?hf5 ?rf5
  case hf5 => (intro wg hSw; go_simp <;> with_reducible rfl)
  simp only [Act.put, List.setIfInBounds_toArray, List.set_cons_zero, List.set_cons_succ]
  refine wpR_take growOrd (i := 5) (v := ?vf6) rfl (by kernel_rfl) (by kernel_rfl) (by kernel_rfl) (fun _ _ _ h => h) (by rfl) ?hf6 ?rf6
  case hf6 => (intro wg hSw; go_simp <;> with_reducible rfl)
  simp only [Act.put, List.setIfInBounds_toArray, List.set_cons_zero, List.set_cons_succ]
  refine wpR_take growOrd (i := 6) (v := ?vf7) rfl (by kernel_rfl) (by kernel_rfl) (by kernel_rfl) (fun _ _ _ h => h) (by rfl) ?hf7 ?rf7
  case hf7 => (intro wg hSw; go_simp <;> with_reducible rfl)
  simp only [Act.put, List.setIfInBounds_toArray, List.set_cons_zero, List.set_cons_succ]
  refine wpR_take growOrd (i := 7) (v := ?vf8) rfl (by kernel_rfl) (by kernel_rfl) (by kernel_rfl) (fun _ _ _ h => h) (by rfl) ?hf8 ?rf8
  case hf8 => (intro wg hSw; go_simp <;> with_reducible rfl)
  simp only [Act.put, List.setIfInBounds_toArray, List.set_cons_zero, List.set_cons_succ]
  refine wpR_take growOrd (i := 8) (v := ?vf9) rfl (by kernel_rfl) (by kernel_rfl) (by kernel_rfl) (fun _ _ _ h => h) (by rfl) ?hf9 ?rf9
  case hf9 => (intro wg hSw; go_simp <;> with_reducible rfl)
  simp only [Act.put, List.setIfInBounds_toArray, List.set_cons_zero, List.set_cons_succ]
  refine wpR_take growOrd (i := 9) (v := ?vf10) rfl (by kernel_rfl) (by kernel_rfl) (by kernel_rfl) (fun _ _ _ h => h) (by rfl) ?hf10 ?rf10
  case hf10 => (intro wg hSw; go_simp <;> with_reducible rfl)
  simp only [Act.put, List.setIfInBounds_toArray, List.set_cons_zero, List.set_cons_succ]
  refine wpR_take growOrd (i := 10) (v := ?vf11) rfl (by kernel_rfl) (by kernel_rfl) (by kernel_rfl) (fun _ _ _ h => h) (by rfl) ?hf11 ?rf11
  case hf11 => (intro wg hSw; go_simp <;> with_reducible rfl)
  simp only [Act.put, List.setIfInBounds_toArray, List.set_cons_zero, List.set_cons_succ]
  refine wpR_take growOrd (i := 11) (v := ?vf12) rfl (by kernel_rfl) (by kernel_rfl) (by kernel_rfl) (fun _ _ _ h => h) (by rfl) ?hf12 ?rf12
  case hf12 => (intro wg hSw; go_simp <;> with_reducible rfl)
  simp only [Act.put, List.setIfInBounds_toArray, List.set_cons_zero, List.set_cons_succ]
  refine wpR_take growOrd (i := 12) (v := ?vf13) rfl (by kernel_rfl) (by kernel_rfl) (by kernel_rfl) (fun _ _ _ h => h) (by rfl) ?hf13 ?rf13
  case hf13 => (intro wg hSw; go_simp <;> with_reducible rfl)
  simp only [Act.put, List.setIfInBounds_toArray, List.set_cons_zero, List.set_cons_succ]
  refine wpR_take growOrd (i := 13) (v := ?vf14) rfl (by kernel_rfl) (by kernel_rfl) (by kernel_rfl) (fun _ _ _ h => h) (by rfl) ?hf14 ?rf14
  case hf14 => (intro wg hSw; go_simp <;> with_reducible rfl)
  simp only [Act.put, List.setIfInBounds_toArray, List.set_cons_zero, List.set_cons_succ]
  refine wpR_take growOrd (i := 14) (v := ?vf15) rfl (by kernel_rfl) (by kernel_rfl) (by kernel_rfl) (fun _ _ _ h => h) (by rfl) ?hf15 ?rf15
  case hf15 => (intro wg hSw; go_simp <;> with_reducible rfl)
  simp only [Act.put, List.setIfInBounds_toArray, List.set_cons_zero, List.set_cons_succ]
  refine wpR_take growOrd (i := 15) (v := ?vf16) rfl (by kernel_rfl) (by kernel_rfl) (by kernel_rfl) (fun _ _ _ h => h) (by rfl) ?hf16 ?rf16
  case hf16 => (intro wg hSw; go_simp <;> with_reducible rfl)
  simp only [Act.put, List.setIfInBounds_toArray, List.set_cons_zero, List.set_cons_succ]
  refine wpR_take growOrd (i := 16) (v := ?vf17) rfl (by kernel_rfl) (by kernel_rfl) (by kernel_rfl) (fun _ _ _ h => h) (by rfl) ?hf17 ?rf17
  case hf17 => (intro wg hSw; go_simp <;> with_reducible rfl)
  simp only [Act.put, List.setIfInBounds_toArray, List.set_cons_zero, List.set_cons_succ]
  refine wpR_take growOrd (i := 17) (v := ?vf18) rfl (by kernel_rfl) (by kernel_rfl) (by kernel_rfl) (fun _ _ _ h => h) (by rfl) ?hf18 ?rf18
  case hf18 => (intro wg hSw; go_simp <;> with_reducible rfl)
  simp only [Act.put, List.setIfInBounds_toArray, List.set_cons_zero, List.set_cons_succ]
  refine wpR_take growOrd (i := 18) (v := ?vf19) rfl (by kernel_rfl) (by kernel_rfl) (by kernel_rfl) (fun _ _ _ h => h) (by rfl) ?hf19 ?rf19
  case hf19 => (intro wg hSw; go_simp <;> with_reducible rfl)
  simp only [Act.put, List.setIfInBounds_toArray, List.set_cons_zero, List.set_cons_succ]
  refine wpR_take growOrd (i := 19) (v := ?vf20) rfl (by kernel_rfl) (by kernel_rfl) (by kernel_rfl) (fun _ _ _ h => h) (by rfl) ?hf20 ?rf20
  case hf20 => (intro wg hSw; go_simp <;> with_reducible rfl)
  simp only [Act.put, List.setIfInBounds_toArray, List.set_cons_zero, List.set_cons_succ]
  refine wpR_take growOrd (i := 20) (v := ?vf21) rfl (by kernel_rfl) (by kernel_rfl) (by kernel_rfl) (fun _ _ _ h => h) (by rfl) ?hf21 ?rf21
  case hf21 => (intro wg hSw; go_simp <;> with_reducible rfl)
  simp only [Act.put, List.setIfInBounds_toArray, List.set_cons_zero, List.set_cons_succ]
  refine wpR_take growOrd (i := 21) (v := ?vf22) rfl (by kernel_rfl) (by kernel_rfl) (by kernel_rfl) (fun _ _ _ h => h) (by rfl) ?hf22 ?rf22
  case hf22 => (intro wg hSw; go_simp <;> with_reducible rfl)
  simp only [Act.put, List.setIfInBounds_toArray, List.set_cons_zero, List.set_cons_succ]
  refine wpR_take growOrd (i := 22) (v := ?vf23) rfl (by kernel_rfl) (by kernel_rfl) (by kernel_rfl) (fun _ _ _ h => h) (by rfl) ?hf23 ?rf23
  case hf23 => (intro wg hSw; go_simp <;> with_reducible rfl)
  simp only [Act.put, List.setIfInBounds_toArray, List.set_cons_zero, List.set_cons_succ]
  refine wpR_take growOrd (i := 23) (v := ?vf24) rfl (by kernel_rfl) (by kernel_rfl) (by kernel_rfl) (fun _ _ _ h => h) (by rfl) ?hf24 ?rf24
  case hf24 => (intro wg hSw; go_simp <;> with_reducible rfl)
  simp only [Act.put, List.setIfInBounds_toArray, List.set_cons_zero, List.set_cons_succ]
  refine wpR_take growOrd (i := 24) (v := ?vf25) rfl (by kernel_rfl) (by kernel_rfl) (by kernel_rfl) (fun _ _ _ h => h) (by rfl) ?hf25 ?rf25
  case hf25 => (intro wg hSw; go_simp <;> with_reducible rfl)
  simp only [Act.put, List.setIfInBounds_toArray, List.set_cons_zero, List.set_cons_succ]
  refine wpR_take growOrd (i := 25) (v := ?vf26) rfl (by kernel_rfl) (by kernel_rfl) (by kernel_rfl) (fun _ _ _ h => h) (by rfl) ?hf26 ?rf26
  case hf26 => (intro wg hSw; go_simp <;> with_reducible rfl)
  simp only [Act.put, List.setIfInBounds_toArray, List.set_cons_zero, List.set_cons_succ]
  refine wpR_take growOrd (i := 26) (v := ?vf27) rfl (by kernel_rfl) (by kernel_rfl) (by kernel_rfl) (fun _ _ _ h => h) (by rfl) ?hf27 ?rf27
  case hf27 => (intro wg hSw; go_simp <;> with_reducible rfl)
  simp only [Act.put, List.setIfInBounds_toArray, List.set_cons_zero, List.set_cons_succ]
  refine wpR_take growOrd (i := 27) (v := ?vf28) rfl (by kernel_rfl) (by kernel_rfl) (by kernel_rfl) (fun _ _ _ h => h) (by rfl) ?hf28 ?rf28
  case hf28 => (intro wg hSw; go_simp <;> with_reducible rfl)
  simp only [Act.put, List.setIfInBounds_toArray, List.set_cons_zero, List.set_cons_succ]
  refine wpR_take growOrd (i := 28) (v := ?vf29) rfl (by kernel_rfl) (by kernel_rfl) (by kernel_rfl) (fun _ _ _ h => h) (by rfl) ?hf29 ?rf29
  case hf29 => (intro wg hSw; go_simp <;> with_reducible rfl)
  simp only [Act.put, List.setIfInBounds_toArray, List.set_cons_zero, List.set_cons_succ]
  refine wpR_take growOrd (i := 29) (v := ?vf30) rfl (by kernel_rfl) (by kernel_rfl) (by kernel_rfl) (fun _ _ _ h => h) (by rfl) ?hf30 ?rf30
  case hf30 => (intro wg hSw; go_simp <;> with_reducible rfl)
  simp only [Act.put, List.setIfInBounds_toArray, List.set_cons_zero, List.set_cons_succ]
  refine wpR_take growOrd (i := 30) (v := ?vf31) rfl (by kernel_rfl) (by kernel_rfl) (by kernel_rfl) (fun _ _ _ h => h) (by rfl) ?hf31 ?rf31
  case hf31 => (intro wg hSw; go_simp <;> with_reducible rfl)
  simp only [Act.put, List.setIfInBounds_toArray, List.set_cons_zero, List.set_cons_succ]
  refine wpR_take growOrd (i := 31) (v := ?vf32) rfl (by kernel_rfl) (by kernel_rfl) (by kernel_rfl) (fun _ _ _ h => h) (by rfl) ?hf32 ?rf32
  case hf32 => (intro wg hSw; go_simp <;> with_reducible rfl)
  simp only [Act.put, List.setIfInBounds_toArray, List.set_cons_zero, List.set_cons_succ]
  refine wpR_take growOrd (i := 32) (v := ?vf33) rfl (by kernel_rfl) (by kernel_rfl) (by kernel_rfl) (fun _ _ _ h => h) (by rfl) ?hf33 ?rf33
  case hf33 => (intro wg hSw; go_simp <;> with_reducible rfl)
  simp only [Act.put, List.setIfInBounds_toArray, List.set_cons_zero, List.set_cons_succ]
  refine wpR_take growOrd (i := 33) (v := ?vf34) rfl (by kernel_rfl) (by kernel_rfl) (by kernel_rfl) (fun _ _ _ h => h) (by rfl) ?hf34 ?rf34
  case hf34 => (intro wg hSw; go_simp <;> with_reducible rfl)
  simp only [Act.put, List.setIfInBounds_toArray, List.set_cons_zero, List.set_cons_succ]
  refine wpR_take growOrd (i := 34) (v := ?vf35) rfl (by kernel_rfl) (by kernel_rfl) (by kernel_rfl) (fun _ _ _ h => h) (by rfl) ?hf35 ?rf35
  case hf35 => (intro wg hSw; go_simp <;> with_reducible rfl)
  simp only [Act.put, List.setIfInBounds_toArray, List.set_cons_zero, List.set_cons_succ]
  refine wpR_take growOrd (i := 35) (v := ?vf36) rfl (by kernel_rfl) (by kernel_rfl) (by kernel_rfl) (fun _ _ _ h => h) (by rfl) ?hf36 ?rf36
  case hf36 => (intro wg hSw; go_simp <;> with_reducible rfl)
  simp only [Act.put, List.setIfInBounds_toArray, List.set_cons_zero, List.set_cons_succ]
  refine wpR_done (by kernel_rfl) ?_
  have HGE := Lib.hid (HG8.out.trans (hG0.trans (Grow.refl W0)))
  clear pa0 pa1 pb0 pb1 px0 px1
  go_wp2
  go_ret
  exact ⟨rfl, HGE.out⟩
end Go.Proofs.YtkebngldmcoaaaaDoor
