/-
  What small comes to: true.
-/
import Derived.Test.YtlmhddaelfolfaaDoorParses
import Derived.Test.YtlmhddaelfolfaaDoorCompare
namespace Go.Proofs.YtlmhddaelfolfaaDoor
open Go.RowKit Go.Lib

theorem dd1 {i : Nat} (h : i < 10) : decDigits i = [UInt8.ofNat (48 + i)] := dd_small h
theorem dd_15 : decDigits 15 = [49, 53] := by rw [dd_big (by decide), dd_small (by decide)]; rfl
theorem num_m15 : num (-15) = [194, 175, 49, 53] := by rw [num_neg (by decide), show (-15 : Int).natAbs = 15 by rfl, dd_15]
theorem num_m1 : num (-1) = [194, 175, 49] := by rw [num_neg (by decide), show (-1 : Int).natAbs = 1 by rfl, dd_small (by decide)]; rfl
theorem num_1 : num 1 = [49] := by rw [num_pos (by decide), show (1 : Int).natAbs = 1 by rfl, dd_small (by decide)]; rfl
theorem num_2 : num 2 = [50] := by rw [num_pos (by decide), show (2 : Int).natAbs = 2 by rfl, dd_small (by decide)]; rfl
theorem num_0 : num 0 = [48] := by rw [num_pos (by decide), show (0 : Int).natAbs = 0 by rfl, dd_small (by decide)]; rfl

theorem text_a : text (-15) (-1) = [194, 175, 49, 53, 69, 194, 175, 49] := by rw [text_exp (by decide) (by decide), num_m15, num_m1]; rfl
theorem text_b : text 1 2 = [49, 69, 50] := by rw [text_exp (by decide) (by decide), num_1, num_2]; rfl
theorem text_c : text 10 0 = [] := text_wrong (by decide)
theorem text_d : text 0 0 = [48] := by rw [text_plain (by decide), num_0]

theorem parse_a : parseD [194, 175, 49, 53, 69, 194, 175, 49] = ((-15, -1), true) := by
  rw [← text_a]
  exact parseD_text (by constructor <;> decide) (by decide)
theorem parse_b : parseD [49, 53, 48] = ((0, 0), false) := by
  have h1 : numOf (cutE [49, 53, 48]).1 = 150 := by rfl
  have h2 : numOf (cutE [49, 53, 48]).2.1 = 0 := by rfl
  unfold parseD
  rw [h1, h2, text_wrong (by decide), if_neg (by decide)]
theorem parse_c : parseD [48] = ((0, 0), true) := by
  rw [← text_d]
  exact parseD_text (by constructor <;> decide) (by decide)
theorem parse_d : parseD [] = ((0, 0), false) := by
  have h1 : numOf (cutE []).1 = 0 := by rfl
  have h2 : numOf (cutE []).2.1 = 0 := by rfl
  unfold parseD
  rw [h1, h2, text_d, if_neg (by decide)]

theorem cmp_up (a b : Int) (n : Nat) : compareInt (a * 10 ^ (n + 1)) (b * 10 ^ n) = compareInt (10 * a) b := by
  rw [Int.pow_succ, ← Int.mul_assoc, show a * 10 ^ n * 10 = 10 * a * 10 ^ n by rw [Int.mul_comm, ← Int.mul_assoc], cmp_mul _ _ (pow_pos10 n)]

theorem worth_at {m e : Int} (h : rightB m e = true) {n : Nat} (hn : (e + 32768).toNat = n) : worth m e = m * 10 ^ n := by rw [worth_right h, hn]

theorem cmp_a : compareInt (worth 2 1) (worth 19 0) = 1 := by
  rw [worth_at (m := 2) (e := 1) (n := 32768 + 1) (by decide) (by decide), worth_at (m := 19) (e := 0) (n := 32768) (by decide) (by decide)]
  generalize 32768 = n
  rw [cmp_up]
  rfl
theorem cmp_b : compareInt (worth (-2) 1) (worth (-19) 0) = -1 := by
  rw [worth_at (m := -2) (e := 1) (n := 32768 + 1) (by decide) (by decide), worth_at (m := -19) (e := 0) (n := 32768) (by decide) (by decide)]
  generalize 32768 = n
  rw [cmp_up]
  rfl
theorem cmp_c : compareInt (worth 12 (-1)) (worth 125 (-2)) = -1 := by
  rw [worth_at (m := 12) (e := -1) (n := 32766 + 1) (by decide) (by decide), worth_at (m := 125) (e := -2) (n := 32766) (by decide) (by decide)]
  generalize 32766 = n
  rw [cmp_up]
  rfl

theorem in_lit {n : Int} (h : decide (-9223372036854775808 ≤ n ∧ n ≤ 9223372036854775807) = true) : In n := of_decide_eq_true h

theorem k_norm (m e a b : Int) (r : Bool) (hm : In m) (he : In e) (h : norm m e = ((a, b), r)) (W : World) :
    Calls Tryd.prog 10 #[.agg #[.int .i64 m, .int .i64 e]] W fun x w' => x = .returned (.tuple #[.agg #[.int .i64 a, .int .i64 b], .bool r]) ∧ Grow W w' := by
  have := norm_any m e W hm he
  rw [h] at this
  exact this
theorem k_whole (m e a : Int) (r : Bool) (hm : In m) (he : In e) (h : wholeD m e = (a, r)) (W : World) :
    Calls Tryd.prog 12 #[.agg #[.int .i64 m, .int .i64 e]] W fun x w' => x = .returned (.tuple #[.int .i64 a, .bool r]) ∧ Grow W w' := by
  have := whole_any m e W hm he
  rw [h] at this
  exact this
theorem k_parse (l : List UInt8) (hl : l.length ≤ 1000000) (a b : Int) (r : Bool) (h : parseD l = ((a, b), r)) (W : World) (hL : Laid W) :
    Calls Tryd.prog 14 #[.string ⟨l.toArray⟩] W fun x w' => x = .returned (.tuple #[.agg #[.int .i64 a, .int .i64 b], .bool r]) ∧ Grow W w' := by
  have := parse_any l hl W hL
  rw [h] at this
  exact this
theorem k_of (n a b : Int) (r : Bool) (hn : In n) (h : norm n 0 = ((a, b), r)) (W : World) :
    Calls Tryd.prog 18 #[.int .i64 n] W fun x w' => x = .returned (.agg #[.int .i64 a, .int .i64 b]) ∧ Grow W w' := by
  have := of_any n W hn
  rw [h] at this
  exact this
theorem k_text (m e : Int) (l : List UInt8) (hm : In m) (he : In e) (h : text m e = l) (W : World) (hL : Laid W) :
    Calls Tryd.prog 20 #[.agg #[.int .i64 m, .int .i64 e]] W fun x w' => x = .returned (.string ⟨l.toArray⟩) ∧ Grow W w' := by
  have := text_any m e W hm he hL.pows
  rw [h] at this
  exact this
theorem k_cmp (m e n f r : Int) (hm : In m) (he : In e) (hn : In n) (hf : In f) (h : compareInt (worth m e) (worth n f) = r) (W : World) (hL : Laid W) :
    Calls Tryd.prog 22 #[.agg #[.int .i64 m, .int .i64 e], .agg #[.int .i64 n, .int .i64 f]] W fun x w' => x = .returned (.int .i64 r) ∧ Grow W w' := by
  have := compare_any m e n f W hm he hn hf hL.pows
  rw [h] at this
  exact this
theorem k_right (m e : Int) (r : Bool) (hm : In m) (he : In e) (h : rightB m e = r) (W : World) :
    Calls Tryd.prog 16 #[.agg #[.int .i64 m, .int .i64 e]] W fun x w' => x = .returned (.bool r) ∧ Grow W w' := by
  have := right_any m e W hm he
  rw [h] at this
  exact this

set_option maxRecDepth 10000 in
set_option maxHeartbeats 1600000 in
theorem small_walk (w : World) (hL : Laid w) : Calls Tryd.prog 9 #[] w fun e w' => e = .returned (.bool true) ∧ Grow w w' := by
  have HL := Lib.hid hL
  have HC0 := Lib.hid (k_norm 1500 (-1) 15 1 true (in_lit rfl) (in_lit rfl) (by decide))
  have HC1 := Lib.hid (k_norm 10 32767 0 0 false (in_lit rfl) (in_lit rfl) (by decide))
  have HC2 := Lib.hid (k_whole (-3) 2 (-300) true (in_lit rfl) (in_lit rfl) (by decide))
  have HC3 := Lib.hid (k_whole 1 (-1) 0 false (in_lit rfl) (in_lit rfl) (by decide))
  have HC4 := Lib.hid (k_whole 1 19 0 false (in_lit rfl) (in_lit rfl) (by decide))
  have HC5 := Lib.hid (k_parse [194, 175, 49, 53, 69, 194, 175, 49] (by decide) (-15) (-1) true parse_a)
  have HC6 := Lib.hid (k_parse [49, 53, 48] (by decide) 0 0 false parse_b)
  have HC7 := Lib.hid (k_parse [48] (by decide) 0 0 true parse_c)
  have HC8 := Lib.hid (k_parse [] (by decide) 0 0 false parse_d)
  have HC9 := Lib.hid (k_of 100 1 2 true (in_lit rfl) (by decide))
  have HC10 := Lib.hid (k_text 1 2 [49, 69, 50] (in_lit rfl) (in_lit rfl) text_b)
  have HC11 := Lib.hid (k_text 10 0 [] (in_lit rfl) (in_lit rfl) text_c)
  have HC12 := Lib.hid (k_cmp 2 1 19 0 1 (in_lit rfl) (in_lit rfl) (in_lit rfl) (in_lit rfl) cmp_a)
  have HC13 := Lib.hid (k_cmp (-2) 1 (-19) 0 (-1) (in_lit rfl) (in_lit rfl) (in_lit rfl) (in_lit rfl) cmp_b)
  have HC14 := Lib.hid (k_cmp 12 (-1) 125 (-2) (-1) (in_lit rfl) (in_lit rfl) (in_lit rfl) (in_lit rfl) cmp_c)
  have HC15 := Lib.hid (k_right 0 1 false (in_lit rfl) (in_lit rfl) (by decide))
  clear hL
  go_enter Tryd.func9, Tryd.ntmps9
  go_wp2_with fail
  refine (HC0.out _).mono ?_
  rintro x w0 ⟨rfl, hg⟩
  have HG0 := Lib.hid ((Grow.refl w).trans hg)
  clear hg HC0
  go_wp2_with fail
  refine (HC1.out _).mono ?_
  rintro x w1 ⟨rfl, hg⟩
  have HG1 := Lib.hid ((HG0.out.trans (grow_new _ _)).trans hg)
  have HB0_1 := Lib.hid ((boxed_new w0 (.int .i64 15) (.int .i64 1) 23).grow hg)
  clear hg HC1 HG0
  go_wp2_with fail
  refine (HC2.out _).mono ?_
  rintro x w2 ⟨rfl, hg⟩
  have HG2 := Lib.hid ((HG1.out.trans (grow_new _ _)).trans hg)
  have HB0_2 := Lib.hid ((HB0_1.out.grow (grow_new _ _)).grow hg)
  clear hg HC2 HG1 HB0_1
  go_wp2_with fail
  refine (HC3.out _).mono ?_
  rintro x w3 ⟨rfl, hg⟩
  have HG3 := Lib.hid (HG2.out.trans hg)
  have HB0_3 := Lib.hid (HB0_2.out.grow hg)
  clear hg HC3 HG2 HB0_2
  go_wp2_with fail
  refine (HC4.out _).mono ?_
  rintro x w4 ⟨rfl, hg⟩
  have HG4 := Lib.hid (HG3.out.trans hg)
  have HB0_4 := Lib.hid (HB0_3.out.grow hg)
  clear hg HC4 HG3 HB0_3
  go_wp2_with fail
  refine (HC5.out _ (HL.out.grow HG4.out)).mono ?_
  rintro x w5 ⟨rfl, hg⟩
  have HG5 := Lib.hid (HG4.out.trans hg)
  have HB0_5 := Lib.hid (HB0_4.out.grow hg)
  clear hg HC5 HG4 HB0_4
  go_wp2_with fail
  refine (HC6.out _ (HL.out.grow (HG5.out.trans (grow_new _ _)))).mono ?_
  rintro x w6 ⟨rfl, hg⟩
  have HG6 := Lib.hid ((HG5.out.trans (grow_new _ _)).trans hg)
  have HB0_6 := Lib.hid ((HB0_5.out.grow (grow_new _ _)).grow hg)
  have HB5_6 := Lib.hid ((boxed_new w5 (.int .i64 (-15)) (.int .i64 (-1)) 23).grow hg)
  clear hg HC6 HG5 HB0_5
  go_wp2_with fail
  refine (HC7.out _ (HL.out.grow (HG6.out.trans (grow_new _ _)))).mono ?_
  rintro x w7 ⟨rfl, hg⟩
  have HG7 := Lib.hid ((HG6.out.trans (grow_new _ _)).trans hg)
  have HB0_7 := Lib.hid ((HB0_6.out.grow (grow_new _ _)).grow hg)
  have HB5_7 := Lib.hid ((HB5_6.out.grow (grow_new _ _)).grow hg)
  clear hg HC7 HG6 HB0_6 HB5_6
  go_wp2_with fail
  refine (HC8.out _ (HL.out.grow (HG7.out.trans (grow_new _ _)))).mono ?_
  rintro x w8 ⟨rfl, hg⟩
  have HG8 := Lib.hid ((HG7.out.trans (grow_new _ _)).trans hg)
  have HB0_8 := Lib.hid ((HB0_7.out.grow (grow_new _ _)).grow hg)
  have HB5_8 := Lib.hid ((HB5_7.out.grow (grow_new _ _)).grow hg)
  have HB7_8 := Lib.hid ((boxed_new w7 (.int .i64 0) (.int .i64 0) 23).grow hg)
  clear hg HC8 HG7 HB0_7 HB5_7
  have c00 : ∀ o, (w8.alloc o).cell? ⟨w0.heap.size, 0, none⟩ = some (.int .i64 15) := fun o => (HB0_8.out.grow (grow_new _ o)).fst
  have c01 : ∀ o, (w8.alloc o).cell? ⟨w0.heap.size, 1, none⟩ = some (.int .i64 1) := fun o => (HB0_8.out.grow (grow_new _ o)).snd
  have c50 : ∀ o, (w8.alloc o).cell? ⟨w5.heap.size, 0, none⟩ = some (.int .i64 (-15)) := fun o => (HB5_8.out.grow (grow_new _ o)).fst
  have c51 : ∀ o, (w8.alloc o).cell? ⟨w5.heap.size, 1, none⟩ = some (.int .i64 (-1)) := fun o => (HB5_8.out.grow (grow_new _ o)).snd
  have c70 : ∀ o, (w8.alloc o).cell? ⟨w7.heap.size, 0, none⟩ = some (.int .i64 0) := fun o => (HB7_8.out.grow (grow_new _ o)).fst
  have c71 : ∀ o, (w8.alloc o).cell? ⟨w7.heap.size, 1, none⟩ = some (.int .i64 0) := fun o => (HB7_8.out.grow (grow_new _ o)).snd
  clear HB0_8 HB5_8 HB7_8
  go_wp2_with fail
  refine (HC9.out _).mono ?_
  rintro x w9 ⟨rfl, hg⟩
  have HG9 := Lib.hid ((HG8.out.trans (grow_new _ _)).trans hg)
  clear hg HC9 HG8
  clear c00 c01 c50 c51 c70 c71
  go_wp2_with fail
  refine (HC10.out _ (HL.out.grow HG9.out)).mono ?_
  rintro x w10 ⟨rfl, hg⟩
  have HG10 := Lib.hid (HG9.out.trans hg)
  clear hg HC10 HG9
  go_wp2_with fail
  refine (HC11.out _ (HL.out.grow HG10.out)).mono ?_
  rintro x w11 ⟨rfl, hg⟩
  have HG11 := Lib.hid (HG10.out.trans hg)
  clear hg HC11 HG10
  go_wp2_with fail
  refine (HC12.out _ (HL.out.grow HG11.out)).mono ?_
  rintro x w12 ⟨rfl, hg⟩
  have HG12 := Lib.hid (HG11.out.trans hg)
  clear hg HC12 HG11
  go_wp2_with fail
  refine (HC13.out _ (HL.out.grow HG12.out)).mono ?_
  rintro x w13 ⟨rfl, hg⟩
  have HG13 := Lib.hid (HG12.out.trans hg)
  clear hg HC13 HG12
  go_wp2_with fail
  refine (HC14.out _ (HL.out.grow HG13.out)).mono ?_
  rintro x w14 ⟨rfl, hg⟩
  have HG14 := Lib.hid (HG13.out.trans hg)
  clear hg HC14 HG13
  go_wp2_with fail
  refine (HC15.out _).mono ?_
  rintro x w15 ⟨rfl, hg⟩
  have HG15 := Lib.hid (HG14.out.trans hg)
  clear hg HC15 HG14
  go_wp2
  go_ret
  exact ⟨rfl, HG15.out⟩

end Go.Proofs.YtlmhddaelfolfaaDoor
