/-
  The small case: what it says of texts and numbers.
-/
import Derived.Test.YtkebngldmcoaaaaGreatDoorReads
namespace Go.Proofs.YtkebngldmcoaaaaGreatDoor
open Go.RowKit Go.Lib

theorem in_lit {n : Int} (h : decide (-9223372036854775808 ≤ n ∧ n ≤ 9223372036854775807) = true) : In n := by simpa [In] using h
theorem num_1 : num 1 = [49] := by rw [num_pos (by decide)]; exact dd_small (by decide)
theorem num_2 : num 2 = [50] := by rw [num_pos (by decide)]; exact dd_small (by decide)
theorem num_7 : num 7 = [55] := by rw [num_pos (by decide)]; exact dd_small (by decide)
theorem num_m1 : num (-1) = [194, 175, 49] := by rw [num_neg (by decide)]; exact congrArg (fun l => 194 :: 175 :: l) (dd_small (by decide))
theorem num_m2 : num (-2) = [194, 175, 50] := by rw [num_neg (by decide)]; exact congrArg (fun l => 194 :: 175 :: l) (dd_small (by decide))
theorem num_m5 : num (-5) = [194, 175, 53] := by rw [num_neg (by decide)]; exact congrArg (fun l => 194 :: 175 :: l) (dd_small (by decide))
theorem num_15 : num 15 = [49, 53] := by rw [num_pos (by decide)]; simp [decDigits]
theorem num_100 : num 100 = [49, 48, 48] := by rw [num_pos (by decide)]; simp [decDigits]
theorem num_min : num (-9223372036854775808) = [194, 175, 57, 50, 50, 51, 51, 55, 50, 48, 51, 54, 56, 53, 52, 55, 55, 53, 56, 48, 56] := by rw [num_neg (by decide)]; simp [decDigits]
theorem text_1 : text 1 0 = [49] := by rw [text_plain (by decide), num_1]
theorem text_m2 : text (-2) 0 = [194, 175, 50] := by rw [text_plain (by decide), num_m2]
theorem text_15m1 : text 15 (-1) = [49, 53, 69, 194, 175, 49] := by rw [text_exp (by decide) (by decide), num_15, num_m1]; rfl
theorem text_12 : text 1 2 = [49, 69, 50] := by rw [text_exp (by decide) (by decide), num_1, num_2]; rfl

theorem decs_a : decsT [(1, 0), (-2, 0), (15, -1)] = [49, 32, 194, 175, 50, 32, 49, 53, 69, 194, 175, 49] := by
  unfold decsT
  rw [if_pos (by decide)]
  simp [text_1, text_m2, text_15m1, join, List.intercalate]
theorem decs_b : decsT [(15, -1), (1, 2)] = [49, 53, 69, 194, 175, 49, 32, 49, 69, 50] := by
  unfold decsT
  rw [if_pos (by decide)]
  simp [text_12, text_15m1, join, List.intercalate]
theorem decs_c : decsT [(10, 0)] = [] := decs_wrong (by decide)
theorem ints_a : intsT [-5, 0, 100] = [194, 175, 53, 32, 48, 32, 49, 48, 48] := by
  unfold intsT
  simp [num_m5, num_zero, num_100, join, List.intercalate]
theorem ints_b : intsT [] = [] := rfl

theorem read_a : mkL (readO [49, 32, 194, 175, 50, 32, 49, 53, 69, 194, 175, 49, 32, 120]) = ([(1, 0), (-2, 0), (15, -1)], [32, 120], true) := by
  have h := decs_back (ds := [(1, 0), (-2, 0), (15, -1)]) (by simp) (by simp only [List.forall_mem_cons]; exact ⟨in_lit rfl, in_lit rfl, in_lit rfl, by simp⟩) (by decide) [32, 120] (by decide) (by decide)
  rw [decs_a] at h
  exact congrArg mkL h
theorem read_b : mkL (readO [49, 48, 48]) = ([(1, 2)], [], true) := by
  have h := int_back (n := 100) (in_lit rfl)
  rw [num_100, show norm 100 0 = ((1, 2), true) by decide] at h
  exact congrArg mkL h
theorem one_no {l : List UInt8} {m e v : Int} (h1 : numOf (cutE l).1 = m) (h2 : numOf (cutE l).2.1 = e) (h3 : numOf l = v) (ht : text m e ≠ l) (hv : num v ≠ l) : oneD l = ((0, 0), false) := by
  have hp : (parseD l).2 = false := by unfold parseD; rw [h1, h2, if_neg ht]
  rw [oneD, if_neg (by rw [hp]; decide), h3, if_neg hv]
theorem read_c : mkL (readO [48, 48, 55]) = ([], [], false) := by
  have h : oneD [48, 48, 55] = ((0, 0), false) := one_no (m := 7) (e := 0) (v := 7) (by rfl) (by rfl) (by rfl) (by rw [text_plain (by decide), num_7]; decide) (by rw [num_7]; decide)
  have h2 : readO [48, 48, 55] = none := readO_wrong (by rw [show npc [48, 48, 55] = 3 by decide]; exact congrArg Prod.snd h)
  rw [h2]; rfl
theorem read_d : mkL (readO []) = ([], [], false) := by
  have h2 : readO [] = none := readO_wrong (by rw [npc_nil, List.take_zero, oneD_nil])
  rw [h2]; rfl
theorem read_e : mkL (readO [49, 32, 69, 50]) = ([], [], false) := by
  have h : oneD [69, 50] = ((0, 0), false) := one_no (m := 0) (e := 2) (v := 0) (by rfl) (by rfl) (by rfl) (by rw [text_wrong (by decide)]; decide) (by rw [num_zero]; decide)
  have h0 : readO [69, 50] = none := readO_wrong (by rw [show npc [69, 50] = 2 by decide]; exact congrArg Prod.snd h)
  have h1 : oneD [49] = ((1, 0), true) := by
    have := oneD_text (m := 1) (e := 0) (in_lit rfl) (by decide)
    rwa [text_1] at this
  have h2 : readO [49, 32, 69, 50] = none := by
    rw [readO_on (l := [49, 32, 69, 50]) (t := [69, 50]) (by rw [show npc [49, 32, 69, 50] = 1 by decide]; exact congrArg Prod.snd h1) (by decide), h0]
    rfl
  rw [h2]; rfl
theorem read_f : mkL (readO [57, 50, 50, 51, 51, 55, 50, 48, 51, 54, 56, 53, 52, 55, 55, 53, 56, 48, 56]) = ([], [], false) := by
  have h : oneD [57, 50, 50, 51, 51, 55, 50, 48, 51, 54, 56, 53, 52, 55, 55, 53, 56, 48, 56] = ((0, 0), false) := one_no (m := 0) (e := 0) (v := 0) (by rfl) (by rfl) (by rfl) (by rw [text_plain (by decide), num_zero]; decide) (by rw [num_zero]; decide)
  have h2 : readO [57, 50, 50, 51, 51, 55, 50, 48, 51, 54, 56, 53, 52, 55, 55, 53, 56, 48, 56] = none := readO_wrong (by rw [show npc [57, 50, 50, 51, 51, 55, 50, 48, 51, 54, 56, 53, 52, 55, 55, 53, 56, 48, 56] = 19 by decide]; exact congrArg Prod.snd h)
  rw [h2]; rfl
theorem read_g : mkL (readO [194, 175, 57, 50, 50, 51, 51, 55, 50, 48, 51, 54, 56, 53, 52, 55, 55, 53, 56, 48, 56, 32, 32, 49]) = ([(-9223372036854775808, 0)], [32, 32, 49], true) := by
  have h := ints_back (xs := [-9223372036854775808]) (by simp) (by simp only [List.forall_mem_cons]; exact ⟨in_lit rfl, by simp⟩) [32, 32, 49] (by decide) (by decide)
  rw [show intsT [-9223372036854775808] = num (-9223372036854775808) by simp [intsT, join_one], num_min] at h
  rw [List.map_cons, List.map_nil, show norm (-9223372036854775808) 0 = ((-9223372036854775808, 0), true) by decide] at h
  exact congrArg mkL h
end Go.Proofs.YtkebngldmcoaaaaGreatDoor
