/-
  DecimalTells comes to true, whatever it is called with.
-/
import Derived.Test.YtlmhddaelfolfaaDoorRCompare
import Derived.Test.YtlmhddaelfolfaaDoorRParse
namespace Go.Proofs.YtlmhddaelfolfaaDoor
open Go.RowKit Go.Lib

set_option maxRecDepth 10000 in
set_option maxHeartbeats 3200000 in
set_option linter.unusedSimpArgs false in
theorem ltells_walk (m e n f k : Int) (l : List UInt8) (w : World) (hm : In m) (he : In e) (hn : In n) (hf : In f) (hk : In k) (hL : Laid w) (hl0 : l.length ≤ 9223372036854775807) :
    Calls Tryd.prog 3 #[.agg #[.int .i64 m, .int .i64 e], .agg #[.int .i64 n, .int .i64 f], .int .i64 k, .string ⟨l.toArray⟩] w fun x w' => x = .returned (.bool true) ∧ Grow w w' := by
  have HS := Lib.hid (fun W (h : Laid W) => small_walk W h)
  have HL := Lib.hid hL
  have HNA := Lib.hid (fun W => norm_any m e W hm he)
  have HNB := Lib.hid (fun W => rnorm_any m e W hm he)
  have HWA := Lib.hid (fun W => whole_any m e W hm he)
  have HWB := Lib.hid (fun W => rwhole_any m e W hm he)
  have HRA := Lib.hid (fun W => right_any m e W hm he)
  have HRB := Lib.hid (fun W => rright_any m e W hm he)
  have HOA := Lib.hid (fun W => of_any k W hk)
  have HOB := Lib.hid (fun W => rof_any k W hk)
  have HTA := Lib.hid (fun W (h : Laid W) => text_any m e W hm he h.pows)
  have HTB := Lib.hid (fun W => rtext_any m e W hm he)
  have HCA := Lib.hid (fun W (h : Laid W) => compare_any m e n f W hm he hn hf h.pows)
  have HCB := Lib.hid (fun W => rcompare_any m e n f W hm he hn hf)
  clear hm he hn hf hk hL
  generalize (norm m e).1.1 = n1 at *
  generalize (norm m e).1.2 = n2 at *
  generalize (norm m e).2 = n3 at *
  generalize (wholeD m e).1 = h1 at *
  generalize (wholeD m e).2 = h2 at *
  generalize rightB m e = r at *
  generalize (norm k 0).1.1 = o1 at *
  generalize (norm k 0).1.2 = o2 at *
  generalize text m e = T at *
  generalize compareInt (worth m e) (worth n f) = C at *
  have heq1 := dec_eq n1 n2 n1 n2
  go_enter Tryd.func3, Tryd.ntmps3
  go_wp2_with fail
  refine (HS.out _ (HL.out.grow (grow_new2 _ _ _))).mono ?_
  rintro x w1 ⟨rfl, hg⟩
  have ha := ((boxed_new w (.int .i64 m) (.int .i64 e) 23).grow (grow_new _ _)).grow hg
  have hb := (boxed_new (w.alloc (.cells #[.int .i64 m, .int .i64 e] 23)) (.int .i64 n) (.int .i64 f) 23).grow hg
  have hsz : (w.alloc (.cells #[.int .i64 m, .int .i64 e] 23)).heap.size = w.heap.size + 1 := by simp
  rw [hsz] at hb
  have a10 := ha.fst; have a11 := ha.snd
  have HA1 := Lib.hid ha
  have HB1 := Lib.hid hb
  have HG1 := Lib.hid ((grow_new2 w _ _).trans hg)
  clear hg ha hb hsz HS
  by_cases h100 : 100 < l.length
  · have hi : (100 : Int) < (l.length : Nat) := by omega
    go_wp2
    go_ret
    exact ⟨rfl, HG1.out⟩
  have hi : ¬ (100 : Int) < (l.length : Nat) := by omega
  have HPA := Lib.hid (fun W (h : Laid W) => parse_any l (by omega) W h)
  have HPB := Lib.hid (fun W => rparse_any l (by omega) W)
  generalize (parseD l).1.1 = p1 at *
  generalize (parseD l).1.2 = p2 at *
  generalize (parseD l).2 = p3 at *
  go_wp2_with fail
  refine (HNA.out _).mono ?_
  rintro x w2 ⟨rfl, hg⟩
  have ha := HA1.out.grow hg
  have a20 : ∀ o, (w2.alloc o).cell? ⟨w.heap.size, 0, none⟩ = some (.int .i64 m) := fun o => (ha.grow (grow_new _ o)).fst
  have a21 : ∀ o, (w2.alloc o).cell? ⟨w.heap.size, 1, none⟩ = some (.int .i64 e) := fun o => (ha.grow (grow_new _ o)).snd
  have HA2 := Lib.hid ha
  have HB2 := Lib.hid (HB1.out.grow hg)
  have HG2 := Lib.hid (HG1.out.trans hg)
  clear hg ha HA1 HB1 HG1 a10 a11 HNA
  go_wp2_with fail
  refine (HNB.out _).mono ?_
  rintro x w3 ⟨rfl, hg⟩
  have hg' := (grow_new w2 (.cells #[.int .i64 n1, .int .i64 n2] 23)).trans hg
  have ha := HA2.out.grow hg'
  have a30 : ∀ o, (w3.alloc o).cell? ⟨w.heap.size, 0, none⟩ = some (.int .i64 m) := fun o => (ha.grow (grow_new _ o)).fst
  have a31 : ∀ o, (w3.alloc o).cell? ⟨w.heap.size, 1, none⟩ = some (.int .i64 e) := fun o => (ha.grow (grow_new _ o)).snd
  have HX3 := Lib.hid ((boxed_new w2 (.int .i64 n1) (.int .i64 n2) 23).grow hg)
  have HA3 := Lib.hid ha
  have HB3 := Lib.hid (HB2.out.grow hg')
  have HG3 := Lib.hid (HG2.out.trans hg')
  clear hg hg' ha HA2 HB2 HG2 a20 a21 HNB
  go_wp2_with fail
  refine (HWA.out _).mono ?_
  rintro x w4 ⟨rfl, hg⟩
  have hg' := (grow_new w3 (.cells #[.int .i64 n1, .int .i64 n2] 23)).trans hg
  have ha := HA3.out.grow hg'
  have a40 := ha.fst; have a41 := ha.snd
  have HY4 := Lib.hid ((boxed_new w3 (.int .i64 n1) (.int .i64 n2) 23).grow hg)
  have HX4 := Lib.hid (HX3.out.grow hg')
  have HA4 := Lib.hid ha
  have HB4 := Lib.hid (HB3.out.grow hg')
  have HG4 := Lib.hid (HG3.out.trans hg')
  clear hg hg' ha HA3 HB3 HX3 HG3 a30 a31 HWA
  go_wp2_with fail
  refine (HWB.out _).mono ?_
  rintro x w5 ⟨rfl, hg⟩
  have HY5 := Lib.hid (HY4.out.grow hg)
  have HX5 := Lib.hid (HX4.out.grow hg)
  have HA5 := Lib.hid (HA4.out.grow hg)
  have HB5 := Lib.hid (HB4.out.grow hg)
  have HG5 := Lib.hid (HG4.out.trans hg)
  clear hg HA4 HB4 HX4 HY4 HG4 a40 a41 HWB
  go_wp2_with fail
  refine (HPA.out _ (HL.out.grow HG5.out)).mono ?_
  rintro x w6 ⟨rfl, hg⟩
  have HY6 := Lib.hid (HY5.out.grow hg)
  have HX6 := Lib.hid (HX5.out.grow hg)
  have HA6 := Lib.hid (HA5.out.grow hg)
  have HB6 := Lib.hid (HB5.out.grow hg)
  have HG6 := Lib.hid (HG5.out.trans hg)
  clear hg HA5 HB5 HX5 HY5 HG5 HPA
  go_wp2_with fail
  refine (HPB.out _).mono ?_
  rintro x w7 ⟨rfl, hg⟩
  have hg' := (grow_new w6 (.cells #[.int .i64 p1, .int .i64 p2] 23)).trans hg
  have HP7 := Lib.hid ((boxed_new w6 (.int .i64 p1) (.int .i64 p2) 23).grow hg)
  have HY7 := Lib.hid (HY6.out.grow hg')
  have HX7 := Lib.hid (HX6.out.grow hg')
  have HA7 := Lib.hid (HA6.out.grow hg')
  have HB7 := Lib.hid (HB6.out.grow hg')
  have HG7 := Lib.hid (HG6.out.trans hg')
  clear hg hg' HA6 HB6 HX6 HY6 HG6 HPB
  go_wp2
  have hg := grow_new w7 (.cells #[.int .i64 p1, .int .i64 p2] 23)
  have hq := boxed_new w7 (.int .i64 p1) (.int .i64 p2) 23
  generalize w7.alloc (.cells #[.int .i64 p1, .int .i64 p2] 23) = w8 at *
  have hx := HX7.out.grow hg
  have hy := HY7.out.grow hg
  have ha := HA7.out.grow hg
  have hb := HB7.out.grow hg
  have hp := HP7.out.grow hg
  have HG8 := Lib.hid (HG7.out.trans hg)
  have g1 : ∀ wg, Grow w8.drew wg → wg.cell? ⟨w2.heap.size, 0, none⟩ = some (.int .i64 n1) := fun wg h => (hx.grow (Grow.of_drew h)).fst
  have g2 : ∀ wg, Grow w8.drew wg → wg.cell? ⟨w2.heap.size, 1, none⟩ = some (.int .i64 n2) := fun wg h => (hx.grow (Grow.of_drew h)).snd
  have g3 : ∀ wg, Grow w8.drew wg → wg.cell? ⟨w3.heap.size, 0, none⟩ = some (.int .i64 n1) := fun wg h => (hy.grow (Grow.of_drew h)).fst
  have g4 : ∀ wg, Grow w8.drew wg → wg.cell? ⟨w3.heap.size, 1, none⟩ = some (.int .i64 n2) := fun wg h => (hy.grow (Grow.of_drew h)).snd
  have g5 : ∀ wg, Grow w8.drew wg → wg.cell? ⟨w.heap.size, 0, none⟩ = some (.int .i64 m) := fun wg h => (ha.grow (Grow.of_drew h)).fst
  have g6 : ∀ wg, Grow w8.drew wg → wg.cell? ⟨w.heap.size, 1, none⟩ = some (.int .i64 e) := fun wg h => (ha.grow (Grow.of_drew h)).snd
  have HA8 := Lib.hid ha
  have HB8 := Lib.hid hb
  have HP8 := Lib.hid hp
  have HQ8 := Lib.hid hq
  clear hg hx hy ha hb hp hq HA7 HB7 HX7 HY7 HP7 HG7
  refine wp_region_grow (n := 62) rfl (by kernel_rfl) ?_
  refine wpAnyG_take (i := 0) (v := ?v1) rfl (by kernel_rfl) (by kernel_rfl) (by kernel_rfl) (fun _ _ _ h => h) (by rfl) ?h1 ?r1
  case h1 => (intro wg hSw; go_simp <;> with_reducible rfl)
  simp only [Act.put, List.setIfInBounds_toArray, List.set_cons_zero, List.set_cons_succ]
  refine wpAnyG_take (i := 1) (v := ?v2) rfl (by kernel_rfl) (by kernel_rfl) (by kernel_rfl) (fun _ _ _ h => h) (by rfl) ?h2 ?r2
  case h2 => (intro wg hSw; go_simp <;> with_reducible rfl)
  simp only [Act.put, List.setIfInBounds_toArray, List.set_cons_zero, List.set_cons_succ]
  refine wpAnyG_take (i := 2) (v := ?v3) rfl (by kernel_rfl) (by kernel_rfl) (by kernel_rfl) (fun _ _ _ h => h) (by rfl) ?h3 ?r3
  case h3 => (intro wg hSw; go_simp <;> with_reducible rfl)
  simp only [Act.put, List.setIfInBounds_toArray, List.set_cons_zero, List.set_cons_succ]
  refine wpAnyG_take (i := 3) (v := ?v4) rfl (by kernel_rfl) (by kernel_rfl) (by kernel_rfl) (fun _ _ _ h => h) (by rfl) ?h4 ?r4
  case h4 => (intro wg hSw; go_simp <;> with_reducible rfl)
  simp only [Act.put, List.setIfInBounds_toArray, List.set_cons_zero, List.set_cons_succ]
  refine wpAnyG_take (i := 4) (v := ?v5) rfl (by kernel_rfl) (by kernel_rfl) (by kernel_rfl) (fun _ _ _ h => h) (by rfl) ?h5 ?r5
  case h5 => (intro wg hSw; go_simp <;> with_reducible rfl)
  simp only [Act.put, List.setIfInBounds_toArray, List.set_cons_zero, List.set_cons_succ]
  refine wpAnyG_take (i := 5) (v := ?v6) rfl (by kernel_rfl) (by kernel_rfl) (by kernel_rfl) (fun _ _ _ h => h) (by rfl) ?h6 ?r6
  case h6 => (intro wg hSw; go_simp <;> with_reducible rfl)
  simp only [Act.put, List.setIfInBounds_toArray, List.set_cons_zero, List.set_cons_succ]
  refine wpAnyG_take (i := 6) (v := ?v7) rfl (by kernel_rfl) (by kernel_rfl) (by kernel_rfl) (fun _ _ _ h => h) (by rfl) ?h7 ?r7
  case h7 => (intro wg hSw; go_simp <;> with_reducible rfl)
  simp only [Act.put, List.setIfInBounds_toArray, List.set_cons_zero, List.set_cons_succ]
  refine wpAnyG_take (i := 7) (v := ?v8) rfl (by kernel_rfl) (by kernel_rfl) (by kernel_rfl) (fun _ _ _ h => h) (by rfl) ?h8 ?r8
  case h8 => (intro wg hSw; go_simp <;> with_reducible rfl)
  simp only [Act.put, List.setIfInBounds_toArray, List.set_cons_zero, List.set_cons_succ]
  refine wpAnyG_take (i := 8) (v := ?v9) rfl (by kernel_rfl) (by kernel_rfl) (by kernel_rfl) (fun _ _ _ h => h) (by rfl) ?h9 ?r9
  case h9 => (intro wg hSw; go_simp <;> with_reducible rfl)
  simp only [Act.put, List.setIfInBounds_toArray, List.set_cons_zero, List.set_cons_succ]
  refine wpAnyG_take (i := 9) (v := ?v10) rfl (by kernel_rfl) (by kernel_rfl) (by kernel_rfl) (fun _ _ _ h => h) (by rfl) ?h10 ?r10
  case h10 => (intro wg hSw; go_simp <;> with_reducible rfl)
  simp only [Act.put, List.setIfInBounds_toArray, List.set_cons_zero, List.set_cons_succ]
  refine wpAnyG_take (i := 10) (v := ?v11) rfl (by kernel_rfl) (by kernel_rfl) (by kernel_rfl) (fun _ _ _ h => h) (by rfl) ?h11 ?r11
  case h11 => (intro wg hSw; go_simp <;> with_reducible rfl)
  simp only [Act.put, List.setIfInBounds_toArray, List.set_cons_zero, List.set_cons_succ]
  refine wpAnyG_take (i := 11) (v := ?v12) rfl (by kernel_rfl) (by kernel_rfl) (by kernel_rfl) (fun _ _ _ h => h) (by rfl) ?h12 ?r12
  case h12 => (intro wg hSw; go_simp <;> with_reducible rfl)
  simp only [Act.put, List.setIfInBounds_toArray, List.set_cons_zero, List.set_cons_succ]
  refine wpAnyG_take (i := 12) (v := ?v13) rfl (by kernel_rfl) (by kernel_rfl) (by kernel_rfl) (fun _ _ _ h => h) (by rfl) ?h13 ?r13
  case h13 => (intro wg hSw; go_simp <;> with_reducible rfl)
  simp only [Act.put, List.setIfInBounds_toArray, List.set_cons_zero, List.set_cons_succ]
  refine wpAnyG_take (i := 14) (v := ?v14) rfl (by kernel_rfl) (by kernel_rfl) (by kernel_rfl) (fun _ _ _ h => h) (by rfl) ?h14 ?r14
  case h14 => (intro wg hSw; go_simp <;> with_reducible rfl)
  simp only [Act.put, List.setIfInBounds_toArray, List.set_cons_zero, List.set_cons_succ]
  refine wpAnyG_one (i := 13) rfl (by kernel_rfl) (by rfl) (fun K hK => ?_)
  go_simp
  refine (HRA.out _).mono ?_
  rintro x w9 ⟨rfl, hg9⟩
  clear g1 g2 g3 g4 g5 g6
  refine hK.out _ _ (hg9) ?_
  clear hK K
  try simp only [Act.put, List.setIfInBounds_toArray, List.set_cons_zero, List.set_cons_succ]
  refine wpAnyG_one (i := 15) rfl (by kernel_rfl) (by rfl) (fun K hK => ?_)
  go_simp
  refine (HRB.out _).mono ?_
  rintro x w10 ⟨rfl, hg10⟩
  have hg := (Grow.of_drew hg9).trans hg10
  have hp := HP8.out.grow hg
  have hq := HQ8.out.grow hg
  have g1 : ∀ wg, Grow w10 wg → wg.cell? ⟨w6.heap.size, 0, none⟩ = some (.int .i64 p1) := fun wg h => (hp.grow h).fst
  have g2 : ∀ wg, Grow w10 wg → wg.cell? ⟨w6.heap.size, 1, none⟩ = some (.int .i64 p2) := fun wg h => (hp.grow h).snd
  have g3 : ∀ wg, Grow w10 wg → wg.cell? ⟨w7.heap.size, 0, none⟩ = some (.int .i64 p1) := fun wg h => (hq.grow h).fst
  have g4 : ∀ wg, Grow w10 wg → wg.cell? ⟨w7.heap.size, 1, none⟩ = some (.int .i64 p2) := fun wg h => (hq.grow h).snd
  have HA10 := Lib.hid (HA8.out.grow hg)
  have HB10 := Lib.hid (HB8.out.grow hg)
  have HG10 := Lib.hid (HG8.out.trans hg)
  have heq2 := dec_eq p1 p2 p1 p2
  clear hg hp hq HP8 HQ8 HA8 HB8 HG8 heq1
  refine hK.out _ _ (hg10) ?_
  clear hK K
  try simp only [Act.put, List.setIfInBounds_toArray, List.set_cons_zero, List.set_cons_succ]
  refine wpAnyG_take (i := 16) (v := ?v15) rfl (by kernel_rfl) (by kernel_rfl) (by kernel_rfl) (fun _ _ _ h => h) (by rfl) ?h15 ?r15
  case h15 => (intro wg hSw; go_simp <;> with_reducible rfl)
  simp only [Act.put, List.setIfInBounds_toArray, List.set_cons_zero, List.set_cons_succ]
  refine wpAnyG_take (i := 17) (v := ?v16) rfl (by kernel_rfl) (by kernel_rfl) (by kernel_rfl) (fun _ _ _ h => h) (by rfl) ?h16 ?r16
  case h16 => (intro wg hSw; go_simp <;> with_reducible rfl)
  simp only [Act.put, List.setIfInBounds_toArray, List.set_cons_zero, List.set_cons_succ]
  refine wpAnyG_take (i := 18) (v := ?v17) rfl (by kernel_rfl) (by kernel_rfl) (by kernel_rfl) (fun _ _ _ h => h) (by rfl) ?h17 ?r17
  case h17 => (intro wg hSw; go_simp <;> with_reducible rfl)
  simp only [Act.put, List.setIfInBounds_toArray, List.set_cons_zero, List.set_cons_succ]
  refine wpAnyG_take (i := 19) (v := ?v18) rfl (by kernel_rfl) (by kernel_rfl) (by kernel_rfl) (fun _ _ _ h => h) (by rfl) ?h18 ?r18
  case h18 => (intro wg hSw; go_simp <;> with_reducible rfl)
  simp only [Act.put, List.setIfInBounds_toArray, List.set_cons_zero, List.set_cons_succ]
  refine wpAnyG_take (i := 20) (v := ?v19) rfl (by kernel_rfl) (by kernel_rfl) (by kernel_rfl) (fun _ _ _ h => h) (by rfl) ?h19 ?r19
  case h19 => (intro wg hSw; go_simp <;> with_reducible rfl)
  simp only [Act.put, List.setIfInBounds_toArray, List.set_cons_zero, List.set_cons_succ]
  refine wpAnyG_take (i := 21) (v := ?v20) rfl (by kernel_rfl) (by kernel_rfl) (by kernel_rfl) (fun _ _ _ h => h) (by rfl) ?h20 ?r20
  case h20 => (intro wg hSw; go_simp <;> with_reducible rfl)
  simp only [Act.put, List.setIfInBounds_toArray, List.set_cons_zero, List.set_cons_succ]
  refine wpAnyG_take (i := 22) (v := ?v21) rfl (by kernel_rfl) (by kernel_rfl) (by kernel_rfl) (fun _ _ _ h => h) (by rfl) ?h21 ?r21
  case h21 => (intro wg hSw; go_simp <;> with_reducible rfl)
  simp only [Act.put, List.setIfInBounds_toArray, List.set_cons_zero, List.set_cons_succ]
  refine wpAnyG_take (i := 23) (v := ?v22) rfl (by kernel_rfl) (by kernel_rfl) (by kernel_rfl) (fun _ _ _ h => h) (by rfl) ?h22 ?r22
  case h22 => (intro wg hSw; go_simp <;> with_reducible rfl)
  simp only [Act.put, List.setIfInBounds_toArray, List.set_cons_zero, List.set_cons_succ]
  refine wpAnyG_take (i := 24) (v := ?v23) rfl (by kernel_rfl) (by kernel_rfl) (by kernel_rfl) (fun _ _ _ h => h) (by rfl) ?h23 ?r23
  case h23 => (intro wg hSw; go_simp <;> with_reducible rfl)
  simp only [Act.put, List.setIfInBounds_toArray, List.set_cons_zero, List.set_cons_succ]
  refine wpAnyG_take (i := 25) (v := ?v24) rfl (by kernel_rfl) (by kernel_rfl) (by kernel_rfl) (fun _ _ _ h => h) (by rfl) ?h24 ?r24
  case h24 => (intro wg hSw; go_simp <;> with_reducible rfl)
  simp only [Act.put, List.setIfInBounds_toArray, List.set_cons_zero, List.set_cons_succ]
  refine wpAnyG_take (i := 26) (v := ?v25) rfl (by kernel_rfl) (by kernel_rfl) (by kernel_rfl) (fun _ _ _ h => h) (by rfl) ?h25 ?r25
  case h25 => (intro wg hSw; go_simp <;> with_reducible rfl)
  simp only [Act.put, List.setIfInBounds_toArray, List.set_cons_zero, List.set_cons_succ]
  refine wpAnyG_take (i := 27) (v := ?v26) rfl (by kernel_rfl) (by kernel_rfl) (by kernel_rfl) (fun _ _ _ h => h) (by rfl) ?h26 ?r26
  case h26 => (intro wg hSw; go_simp <;> with_reducible rfl)
  simp only [Act.put, List.setIfInBounds_toArray, List.set_cons_zero, List.set_cons_succ]
  refine wpAnyG_take (i := 28) (v := ?v27) rfl (by kernel_rfl) (by kernel_rfl) (by kernel_rfl) (fun _ _ _ h => h) (by rfl) ?h27 ?r27
  case h27 => (intro wg hSw; go_simp <;> with_reducible rfl)
  simp only [Act.put, List.setIfInBounds_toArray, List.set_cons_zero, List.set_cons_succ]
  refine wpAnyG_take (i := 29) (v := ?v28) rfl (by kernel_rfl) (by kernel_rfl) (by kernel_rfl) (fun _ _ _ h => h) (by rfl) ?h28 ?r28
  case h28 => (intro wg hSw; go_simp <;> with_reducible rfl)
  simp only [Act.put, List.setIfInBounds_toArray, List.set_cons_zero, List.set_cons_succ]
  refine wpAnyG_take (i := 30) (v := ?v29) rfl (by kernel_rfl) (by kernel_rfl) (by kernel_rfl) (fun _ _ _ h => h) (by rfl) ?h29 ?r29
  case h29 => (intro wg hSw; go_simp <;> with_reducible rfl)
  simp only [Act.put, List.setIfInBounds_toArray, List.set_cons_zero, List.set_cons_succ]
  refine wpAnyG_take (i := 31) (v := ?v30) rfl (by kernel_rfl) (by kernel_rfl) (by kernel_rfl) (fun _ _ _ h => h) (by rfl) ?h30 ?r30
  case h30 => (intro wg hSw; go_simp <;> with_reducible rfl)
  simp only [Act.put, List.setIfInBounds_toArray, List.set_cons_zero, List.set_cons_succ]
  refine wpAnyG_take (i := 32) (v := ?v31) rfl (by kernel_rfl) (by kernel_rfl) (by kernel_rfl) (fun _ _ _ h => h) (by rfl) ?h31 ?r31
  case h31 => (intro wg hSw; go_simp <;> with_reducible rfl)
  simp only [Act.put, List.setIfInBounds_toArray, List.set_cons_zero, List.set_cons_succ]
  refine wpAnyG_take (i := 33) (v := ?v32) rfl (by kernel_rfl) (by kernel_rfl) (by kernel_rfl) (fun _ _ _ h => h) (by rfl) ?h32 ?r32
  case h32 => (intro wg hSw; go_simp <;> with_reducible rfl)
  simp only [Act.put, List.setIfInBounds_toArray, List.set_cons_zero, List.set_cons_succ]
  refine wpAnyG_take (i := 34) (v := ?v33) rfl (by kernel_rfl) (by kernel_rfl) (by kernel_rfl) (fun _ _ _ h => h) (by rfl) ?h33 ?r33
  case h33 => (intro wg hSw; go_simp <;> with_reducible rfl)
  simp only [Act.put, List.setIfInBounds_toArray, List.set_cons_zero, List.set_cons_succ]
  refine wpAnyG_take (i := 35) (v := ?v34) rfl (by kernel_rfl) (by kernel_rfl) (by kernel_rfl) (fun _ _ _ h => h) (by rfl) ?h34 ?r34
  case h34 => (intro wg hSw; go_simp <;> with_reducible rfl)
  simp only [Act.put, List.setIfInBounds_toArray, List.set_cons_zero, List.set_cons_succ]
  refine wpAnyG_take (i := 36) (v := ?v35) rfl (by kernel_rfl) (by kernel_rfl) (by kernel_rfl) (fun _ _ _ h => h) (by rfl) ?h35 ?r35
  case h35 => (intro wg hSw; go_simp <;> with_reducible rfl)
  simp only [Act.put, List.setIfInBounds_toArray, List.set_cons_zero, List.set_cons_succ]
  refine wpAnyG_take (i := 37) (v := ?v36) rfl (by kernel_rfl) (by kernel_rfl) (by kernel_rfl) (fun _ _ _ h => h) (by rfl) ?h36 ?r36
  case h36 => (intro wg hSw; go_simp <;> with_reducible rfl)
  simp only [Act.put, List.setIfInBounds_toArray, List.set_cons_zero, List.set_cons_succ]
  refine wpAnyG_take (i := 38) (v := ?v37) rfl (by kernel_rfl) (by kernel_rfl) (by kernel_rfl) (fun _ _ _ h => h) (by rfl) ?h37 ?r37
  case h37 => (intro wg hSw; go_simp <;> with_reducible rfl)
  simp only [Act.put, List.setIfInBounds_toArray, List.set_cons_zero, List.set_cons_succ]
  refine wpAnyG_take (i := 39) (v := ?v38) rfl (by kernel_rfl) (by kernel_rfl) (by kernel_rfl) (fun _ _ _ h => h) (by rfl) ?h38 ?r38
  case h38 => (intro wg hSw; go_simp <;> with_reducible rfl)
  simp only [Act.put, List.setIfInBounds_toArray, List.set_cons_zero, List.set_cons_succ]
  refine wpAnyG_take (i := 41) (v := ?v39) rfl (by kernel_rfl) (by kernel_rfl) (by kernel_rfl) (fun _ _ _ h => h) (by rfl) ?h39 ?r39
  case h39 => (intro wg hSw; go_simp <;> with_reducible rfl)
  simp only [Act.put, List.setIfInBounds_toArray, List.set_cons_zero, List.set_cons_succ]
  refine wpAnyG_one (i := 40) rfl (by kernel_rfl) (by rfl) (fun K hK => ?_)
  go_simp
  refine (HOA.out _).mono ?_
  rintro x w11 ⟨rfl, hg11⟩
  clear g1 g2 g3 g4
  refine hK.out _ _ (hg11) ?_
  clear hK K
  try simp only [Act.put, List.setIfInBounds_toArray, List.set_cons_zero, List.set_cons_succ]
  refine wpAnyG_one (i := 42) rfl (by kernel_rfl) (by rfl) (fun K hK => ?_)
  go_simp
  refine (HOB.out _).mono ?_
  rintro x w12 ⟨rfl, hg12⟩
  have hg := hg11.trans hg12
  have ha := HA10.out.grow hg
  have g1 : ∀ wg, Grow w12 wg → wg.cell? ⟨w.heap.size, 0, none⟩ = some (.int .i64 m) := fun wg h => (ha.grow h).fst
  have g2 : ∀ wg, Grow w12 wg → wg.cell? ⟨w.heap.size, 1, none⟩ = some (.int .i64 e) := fun wg h => (ha.grow h).snd
  have HA12 := Lib.hid ha
  have HB12 := Lib.hid (HB10.out.grow hg)
  have HG12 := Lib.hid (HG10.out.trans hg)
  have heq3 := dec_eq o1 o2 o1 o2
  clear hg ha HA10 HB10 HG10 heq2
  refine hK.out _ _ (hg12) ?_
  clear hK K
  try simp only [Act.put, List.setIfInBounds_toArray, List.set_cons_zero, List.set_cons_succ]
  refine wpAnyG_take (i := 43) (v := ?v40) rfl (by kernel_rfl) (by kernel_rfl) (by kernel_rfl) (fun _ _ _ h => h) (by rfl) ?h40 ?r40
  case h40 => (intro wg hSw; go_simp <;> with_reducible rfl)
  simp only [Act.put, List.setIfInBounds_toArray, List.set_cons_zero, List.set_cons_succ]
  refine wpAnyG_take (i := 44) (v := ?v41) rfl (by kernel_rfl) (by kernel_rfl) (by kernel_rfl) (fun _ _ _ h => h) (by rfl) ?h41 ?r41
  case h41 => (intro wg hSw; go_simp <;> with_reducible rfl)
  simp only [Act.put, List.setIfInBounds_toArray, List.set_cons_zero, List.set_cons_succ]
  refine wpAnyG_take (i := 45) (v := ?v42) rfl (by kernel_rfl) (by kernel_rfl) (by kernel_rfl) (fun _ _ _ h => h) (by rfl) ?h42 ?r42
  case h42 => (intro wg hSw; go_simp <;> with_reducible rfl)
  simp only [Act.put, List.setIfInBounds_toArray, List.set_cons_zero, List.set_cons_succ]
  refine wpAnyG_take (i := 46) (v := ?v43) rfl (by kernel_rfl) (by kernel_rfl) (by kernel_rfl) (fun _ _ _ h => h) (by rfl) ?h43 ?r43
  case h43 => (intro wg hSw; go_simp <;> with_reducible rfl)
  simp only [Act.put, List.setIfInBounds_toArray, List.set_cons_zero, List.set_cons_succ]
  refine wpAnyG_take (i := 48) (v := ?v44) rfl (by kernel_rfl) (by kernel_rfl) (by kernel_rfl) (fun _ _ _ h => h) (by rfl) ?h44 ?r44
  case h44 => (intro wg hSw; go_simp <;> with_reducible rfl)
  simp only [Act.put, List.setIfInBounds_toArray, List.set_cons_zero, List.set_cons_succ]
  refine wpAnyG_one (i := 47) rfl (by kernel_rfl) (by rfl) (fun K hK => ?_)
  go_simp
  refine (HTA.out _ (HL.out.grow HG12.out)).mono ?_
  rintro x w13 ⟨rfl, hg13⟩
  clear g1 g2
  refine hK.out _ _ (hg13) ?_
  clear hK K
  try simp only [Act.put, List.setIfInBounds_toArray, List.set_cons_zero, List.set_cons_succ]
  refine wpAnyG_one (i := 49) rfl (by kernel_rfl) (by rfl) (fun K hK => ?_)
  go_simp
  refine (HTB.out _).mono ?_
  rintro x w14 ⟨rfl, hg14⟩
  have hg := hg13.trans hg14
  have ha := HA12.out.grow hg
  have hb := HB12.out.grow hg
  have g1 : ∀ wg, Grow w14 wg → wg.cell? ⟨w.heap.size, 0, none⟩ = some (.int .i64 m) := fun wg h => (ha.grow h).fst
  have g2 : ∀ wg, Grow w14 wg → wg.cell? ⟨w.heap.size, 1, none⟩ = some (.int .i64 e) := fun wg h => (ha.grow h).snd
  have g3 : ∀ wg, Grow w14 wg → wg.cell? ⟨w.heap.size + 1, 0, none⟩ = some (.int .i64 n) := fun wg h => (hb.grow h).fst
  have g4 : ∀ wg, Grow w14 wg → wg.cell? ⟨w.heap.size + 1, 1, none⟩ = some (.int .i64 f) := fun wg h => (hb.grow h).snd
  have HG14 := Lib.hid (HG12.out.trans hg)
  clear hg ha hb HA12 HB12 HG12 heq3
  refine hK.out _ _ (hg14) ?_
  clear hK K
  try simp only [Act.put, List.setIfInBounds_toArray, List.set_cons_zero, List.set_cons_succ]
  refine wpAnyG_take (i := 50) (v := ?v45) rfl (by kernel_rfl) (by kernel_rfl) (by kernel_rfl) (fun _ _ _ h => h) (by rfl) ?h45 ?r45
  case h45 => (intro wg hSw; go_simp <;> with_reducible rfl)
  simp only [Act.put, List.setIfInBounds_toArray, List.set_cons_zero, List.set_cons_succ]
  refine wpAnyG_take (i := 51) (v := ?v46) rfl (by kernel_rfl) (by kernel_rfl) (by kernel_rfl) (fun _ _ _ h => h) (by rfl) ?h46 ?r46
  case h46 => (intro wg hSw; go_simp <;> with_reducible rfl)
  simp only [Act.put, List.setIfInBounds_toArray, List.set_cons_zero, List.set_cons_succ]
  refine wpAnyG_take (i := 52) (v := ?v47) rfl (by kernel_rfl) (by kernel_rfl) (by kernel_rfl) (fun _ _ _ h => h) (by rfl) ?h47 ?r47
  case h47 => (intro wg hSw; go_simp <;> with_reducible rfl)
  simp only [Act.put, List.setIfInBounds_toArray, List.set_cons_zero, List.set_cons_succ]
  refine wpAnyG_take (i := 53) (v := ?v48) rfl (by kernel_rfl) (by kernel_rfl) (by kernel_rfl) (fun _ _ _ h => h) (by rfl) ?h48 ?r48
  case h48 => (intro wg hSw; go_simp <;> with_reducible rfl)
  simp only [Act.put, List.setIfInBounds_toArray, List.set_cons_zero, List.set_cons_succ]
  refine wpAnyG_take (i := 54) (v := ?v49) rfl (by kernel_rfl) (by kernel_rfl) (by kernel_rfl) (fun _ _ _ h => h) (by rfl) ?h49 ?r49
  case h49 => (intro wg hSw; go_simp <;> with_reducible rfl)
  simp only [Act.put, List.setIfInBounds_toArray, List.set_cons_zero, List.set_cons_succ]
  refine wpAnyG_take (i := 56) (v := ?v50) rfl (by kernel_rfl) (by kernel_rfl) (by kernel_rfl) (fun _ _ _ h => h) (by rfl) ?h50 ?r50
  case h50 => (intro wg hSw; go_simp <;> with_reducible rfl)
  simp only [Act.put, List.setIfInBounds_toArray, List.set_cons_zero, List.set_cons_succ]
  refine wpAnyG_take (i := 57) (v := ?v51) rfl (by kernel_rfl) (by kernel_rfl) (by kernel_rfl) (fun _ _ _ h => h) (by rfl) ?h51 ?r51
  case h51 => (intro wg hSw; go_simp <;> with_reducible rfl)
  simp only [Act.put, List.setIfInBounds_toArray, List.set_cons_zero, List.set_cons_succ]
  refine wpAnyG_one (i := 55) rfl (by kernel_rfl) (by rfl) (fun K hK => ?_)
  go_simp
  refine (HCA.out _ (HL.out.grow HG14.out)).mono ?_
  rintro x w15 ⟨rfl, hg15⟩
  refine hK.out _ _ (hg15) ?_
  clear hK K
  try simp only [Act.put, List.setIfInBounds_toArray, List.set_cons_zero, List.set_cons_succ]
  refine wpAnyG_one (i := 58) rfl (by kernel_rfl) (by rfl) (fun K hK => ?_)
  go_simp
  refine (HCB.out _).mono ?_
  rintro x w16 ⟨rfl, hg16⟩
  refine hK.out _ _ (hg16) ?_
  clear hK K
  try simp only [Act.put, List.setIfInBounds_toArray, List.set_cons_zero, List.set_cons_succ]
  refine wpAnyG_take (i := 59) (v := ?v52) rfl (by kernel_rfl) (by kernel_rfl) (by kernel_rfl) (fun _ _ _ h => h) (by rfl) ?h52 ?r52
  case h52 => (intro wg hSw; go_simp <;> with_reducible rfl)
  simp only [Act.put, List.setIfInBounds_toArray, List.set_cons_zero, List.set_cons_succ]
  refine wpAnyG_take (i := 60) (v := ?v53) rfl (by kernel_rfl) (by kernel_rfl) (by kernel_rfl) (fun _ _ _ h => h) (by rfl) ?h53 ?r53
  case h53 => (intro wg hSw; go_simp <;> with_reducible rfl)
  simp only [Act.put, List.setIfInBounds_toArray, List.set_cons_zero, List.set_cons_succ]
  refine wpAnyG_take (i := 61) (v := ?v54) rfl (by kernel_rfl) (by kernel_rfl) (by kernel_rfl) (fun _ _ _ h => h) (by rfl) ?h54 ?r54
  case h54 => (intro wg hSw; go_simp <;> with_reducible rfl)
  simp only [Act.put, List.setIfInBounds_toArray, List.set_cons_zero, List.set_cons_succ]
  refine wpAnyG_done (by kernel_rfl) ?_
  go_wp2
  go_ret
  exact ⟨rfl, HG14.out.trans (hg15.trans hg16)⟩
end Go.Proofs.YtlmhddaelfolfaaDoor
