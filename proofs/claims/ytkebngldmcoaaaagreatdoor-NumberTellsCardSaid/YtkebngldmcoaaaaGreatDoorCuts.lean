/-
  What strings.Cut comes to at the sign E.
-/
import Derived.Test.YtkebngldmcoaaaaGreatDoorTexts
import Derived.Deep.QuietTactic
namespace Go.Proofs.YtkebngldmcoaaaaGreatDoor
open Go.RowKit Go.Lib

/-- what stands ahead of the first E, what stands behind it, and is there one? -/
def cutE : List UInt8 → List UInt8 × List UInt8 × Bool
  | [] => ([], [], false)
  | c :: l => if c = 69 then ([], l, true) else (c :: (cutE l).1, (cutE l).2.1, (cutE l).2.2)

theorem cutE_at (a b : List UInt8) (h : ∀ c ∈ a, c ≠ 69) : cutE (a ++ 69 :: b) = (a, b, true) := by
  induction a with
  | nil => simp [cutE]
  | cons c a ih =>
    rw [List.cons_append, cutE, if_neg (h c (by simp)), ih (fun d hd => h d (by simp [hd]))]

theorem cutE_none (a : List UInt8) (h : ∀ c ∈ a, c ≠ 69) : cutE a = (a, [], false) := by
  induction a with
  | nil => rfl
  | cons c a ih => rw [cutE, if_neg (h c (by simp)), ih (fun d hd => h d (by simp [hd]))]

theorem cutE_idx (l : List UInt8) : (cutE l = (l, [], false) ∧ indexByte l 69 = -1) ∨
    ∃ a b, l = a ++ 69 :: b ∧ cutE l = (a, b, true) ∧ indexByte l 69 = (a.length : Nat) := by
  induction l with
  | nil => exact .inl ⟨rfl, rfl⟩
  | cons c l ih =>
    by_cases hc : c = 69
    · subst hc
      exact .inr ⟨[], l, rfl, by simp [cutE], by simp [indexByte]⟩
    · rcases ih with ⟨h1, h2⟩ | ⟨a, b, h1, h2, h3⟩
      · exact .inl ⟨by rw [cutE, if_neg hc, h1], by rw [indexByte, h2]; simp [hc]⟩
      · refine .inr ⟨c :: a, b, by rw [h1]; rfl, by rw [cutE, if_neg hc, h2], ?_⟩
        rw [indexByte, h3]
        have : ((a.length : Nat) : Int) ≠ -1 := by omega
        simp [hc, this]

theorem str_ext {s t : ByteArray} (h : s.data.toList = t.data.toList) : s = t := by
  apply ByteArray.ext
  exact Array.toList_inj.1 h

set_option maxRecDepth 100000 in
theorem slice_to (l : List UInt8) (n : Nat) (h : n ≤ l.length) (W : World) : (Instr.slice 9 (.string ⟨l.toArray⟩) none (some (.int .i64 (n : Nat))) none).run Tryz.prog W = .ok (.string ⟨(l.take n).toArray⟩) W := by
  have hu : Tryz.prog.underlying 9 = some .string := by kernel_rfl
  rw [run_slice_string_h (ht := hu) (h0 := by omega) (h2 := by simpa [ByteArray.size] using h)]
  congr 2
  exact str_ext (by simp)

set_option maxRecDepth 100000 in
theorem slice_from (l : List UInt8) (n : Nat) (h : n ≤ l.length) (W : World) : (Instr.slice 9 (.string ⟨l.toArray⟩) (some (.int .i64 (n : Nat))) none none).run Tryz.prog W = .ok (.string ⟨(l.drop n).toArray⟩) W := by
  have hu : Tryz.prog.underlying 9 = some .string := by kernel_rfl
  rw [run_slice_string_l (ht := hu) (h0 := by omega) (h1 := by simpa [ByteArray.size] using h)]
  congr 2
  exact str_ext (by simp [ByteArray.size]; exact List.take_of_length_le (by simp))

set_option maxRecDepth 10000 in
set_option maxHeartbeats 800000 in
theorem index_any (s : ByteArray) (w : World) :
    Calls Tryz.prog 65 #[.string s, .string ⟨#[69]⟩] w fun e w' => e = .returned (.int .i64 (indexByte s.data.toList 69)) ∧ w' = w := by
  by_cases hs : ([69] : List UInt8) = s.toList
  · have hd : s = ⟨#[69]⟩ := str_ext (by rw [← ByteArray.toList_eq, ← hs])
    subst hd
    clear hs
    go_enter Tryz.func65, Tryz.ntmps65
    go_wp2
    go_ret
    exact ⟨rfl, rfl⟩
  · have HC := Lib.hid (Tryz.stringslite_IndexByte s 69 w)
    have hb : (([69] : List UInt8) == s.toList) = false := by simpa using hs
    clear hs
    go_enter Tryz.func65, Tryz.ntmps65
    go_wp2_with fail
    refine (HC.out).mono ?_
    rintro e w' ⟨rfl, rfl⟩
    go_wp2
    go_ret
    exact ⟨rfl, rfl⟩

set_option maxRecDepth 10000 in
set_option maxHeartbeats 800000 in
theorem icut_any (l : List UInt8) (hl : l.length ≤ 1000000) (w : World) :
    Calls Tryz.prog 54 #[.string ⟨l.toArray⟩, .string ⟨#[69]⟩] w fun e w' =>
      e = .returned (.tuple #[.string ⟨(cutE l).1.toArray⟩, .string ⟨(cutE l).2.1.toArray⟩, .bool (cutE l).2.2]) ∧ Grow w w' := by
  have HC := Lib.hid (index_any ⟨l.toArray⟩ w)
  rcases cutE_idx l with ⟨h1, h2⟩ | ⟨a, b, h1, h2, h3⟩
  · rw [h1]
    rw [show (⟨l.toArray⟩ : ByteArray).data.toList = l from rfl, h2] at HC
    clear h1 h2
    go_enter Tryz.func54, Tryz.ntmps54
    go_wp2_with fail
    refine (HC.out).mono ?_
    rintro e w' ⟨rfl, rfl⟩
    go_wp2
    go_ret3
    exact ⟨rfl, Grow.refl _⟩
  · rw [h2]
    rw [show (⟨l.toArray⟩ : ByteArray).data.toList = l from rfl, h3] at HC
    have hsl1 : ∀ W, (Instr.slice 9 (.string ⟨l.toArray⟩) none (some (.int .i64 (a.length : Nat))) none).run Tryz.prog W = .ok (.string ⟨a.toArray⟩) W := fun W => by
      have h := slice_to l a.length (by rw [h1]; simp) W
      rw [h1, List.take_left, ← h1] at h
      exact h
    have hsl2 : ∀ W, (Instr.slice 9 (.string ⟨l.toArray⟩) (some (.int .i64 ((a.length : Nat) + 1))) none none).run Tryz.prog W = .ok (.string ⟨b.toArray⟩) W := fun W => by
      have h := slice_from l (a.length + 1) (by rw [h1]; simp) W
      have e : l.drop (a.length + 1) = b := by rw [h1]; simp
      rw [e] at h
      exact h
    have ha : ((a.length : Nat) : Int) + 1 ≤ 9223372036854775807 := by
      have : l.length = a.length + (b.length + 1) := by rw [h1]; simp
      omega
    have hwr : IntKind.i64.wrap (((a.length : Nat) : Int) + 1) = (a.length : Nat) + 1 := by rw [IntKind.wrap_i64]; omega
    clear h1 h2 h3
    go_enter Tryz.func54, Tryz.ntmps54
    go_wp2_with fail
    refine (HC.out).mono ?_
    rintro e w' ⟨rfl, rfl⟩
    clear HC
    go_wp2
    refine wp_region_grow (n := 12) rfl (by kernel_rfl) ?_
    refine wpAnyG_take (i := 0) (v := ?v1) rfl (by kernel_rfl) (by kernel_rfl) (by kernel_rfl) (fun _ _ _ h => h) (by rfl) ?h1 ?r1
    case h1 => (intro wg hSw; go_simp <;> with_reducible rfl)
    simp only [Act.put, List.setIfInBounds_toArray, List.set_cons_zero, List.set_cons_succ]
    refine wpAnyG_take (i := 1) (v := ?v2) rfl (by kernel_rfl) (by kernel_rfl) (by kernel_rfl) (fun _ _ _ h => h) (by rfl) ?h2 ?r2
    case h2 => (intro wg hSw; go_simp <;> with_reducible rfl)
    simp only [Act.put, List.setIfInBounds_toArray, List.set_cons_zero, List.set_cons_succ]
    refine wpAnyG_take (i := 2) (v := ?v3) rfl (by kernel_rfl) (by kernel_rfl) (by kernel_rfl) (fun _ _ _ h => h) (by rfl) ?h3 ?r3
    case h3 => (intro wg hSw; go_simp <;> with_reducible rfl)
    simp only [Act.put, List.setIfInBounds_toArray, List.set_cons_zero, List.set_cons_succ]
    refine wpAnyG_take (i := 3) (v := ?v4) rfl (by kernel_rfl) (by kernel_rfl) (by kernel_rfl) (fun _ _ _ h => h) (by rfl) ?h4 ?r4
    case h4 => (intro wg hSw; go_simp <;> with_reducible rfl)
    simp only [Act.put, List.setIfInBounds_toArray, List.set_cons_zero, List.set_cons_succ]
    refine wpAnyG_take (i := 4) (v := ?v5) rfl (by kernel_rfl) (by kernel_rfl) (by kernel_rfl) (fun _ _ _ h => h) (by rfl) ?h5 ?r5
    case h5 => (intro wg hSw; go_simp <;> with_reducible rfl)
    simp only [Act.put, List.setIfInBounds_toArray, List.set_cons_zero, List.set_cons_succ]
    refine wpAnyG_take (i := 5) (v := ?v6) rfl (by kernel_rfl) (by kernel_rfl) (by kernel_rfl) (fun _ _ _ h => h) (by rfl) ?h6 ?r6
    case h6 => (intro wg hSw; go_simp <;> with_reducible rfl)
    simp only [Act.put, List.setIfInBounds_toArray, List.set_cons_zero, List.set_cons_succ]
    refine wpAnyG_take (i := 6) (v := ?v7) rfl (by kernel_rfl) (by kernel_rfl) (by kernel_rfl) (fun _ _ _ h => h) (by rfl) ?h7 ?r7
    case h7 => (intro wg hSw; go_simp <;> with_reducible rfl)
    simp only [Act.put, List.setIfInBounds_toArray, List.set_cons_zero, List.set_cons_succ]
    refine wpAnyG_take (i := 7) (v := ?v8) rfl (by kernel_rfl) (by kernel_rfl) (by kernel_rfl) (fun _ _ _ h => h) (by rfl) ?h8 ?r8
    case h8 => (intro wg hSw; go_simp <;> with_reducible rfl)
    simp only [Act.put, List.setIfInBounds_toArray, List.set_cons_zero, List.set_cons_succ]
    refine wpAnyG_take (i := 8) (v := ?v9) rfl (by kernel_rfl) (by kernel_rfl) (by kernel_rfl) (fun _ _ _ h => h) (by rfl) ?h9 ?r9
    case h9 => (intro wg hSw; go_simp <;> with_reducible rfl)
    simp only [Act.put, List.setIfInBounds_toArray, List.set_cons_zero, List.set_cons_succ]
    refine wpAnyG_take (i := 9) (v := ?v10) rfl (by kernel_rfl) (by kernel_rfl) (by kernel_rfl) (fun _ _ _ h => h) (by rfl) ?h10 ?r10
    case h10 => (intro wg hSw; go_simp <;> with_reducible rfl)
    simp only [Act.put, List.setIfInBounds_toArray, List.set_cons_zero, List.set_cons_succ]
    refine wpAnyG_take (i := 10) (v := ?v11) rfl (by kernel_rfl) (by kernel_rfl) (by kernel_rfl) (fun _ _ _ h => h) (by rfl) ?h11 ?r11
    case h11 => (intro wg hSw; go_simp <;> with_reducible rfl)
    simp only [Act.put, List.setIfInBounds_toArray, List.set_cons_zero, List.set_cons_succ]
    refine wpAnyG_take (i := 11) (v := ?v12) rfl (by kernel_rfl) (by kernel_rfl) (by kernel_rfl) (fun _ _ _ h => h) (by rfl) ?h12 ?r12
    case h12 => (intro wg hSw; go_simp <;> with_reducible rfl)
    simp only [Act.put, List.setIfInBounds_toArray, List.set_cons_zero, List.set_cons_succ]
    refine wpAnyG_done (by kernel_rfl) ?_
    go_wp2
    go_ret3
    exact ⟨rfl, (Grow.refl _).drew⟩

set_option maxRecDepth 10000 in
theorem cut_any (l : List UInt8) (hl : l.length ≤ 1000000) (w : World) :
    Calls Tryz.prog 41 #[.string ⟨l.toArray⟩, .string ⟨#[69]⟩] w fun e w' =>
      e = .returned (.tuple #[.string ⟨(cutE l).1.toArray⟩, .string ⟨(cutE l).2.1.toArray⟩, .bool (cutE l).2.2]) ∧ Grow w w' := by
  have HC := Lib.hid (icut_any l hl w)
  generalize cutE l = r at *
  go_enter Tryz.func41, Tryz.ntmps41
  go_wp2_with fail
  refine (HC.out).mono ?_
  rintro e w1 ⟨rfl, hg⟩
  have HG := Lib.hid hg
  clear hg HC
  go_wp2
  go_ret3
  exact ⟨rfl, HG.out⟩

theorem index_at {l : List UInt8} {i : Nat} {c : UInt8} (h : l[i]? = some c) (W : World) : (Instr.index 9 (.string ⟨l.toArray⟩) (.int .i64 (i : Nat))).run Tryz.prog W = .ok (.int .u8 (c.toNat : Nat)) W := by
  obtain ⟨hi, hc⟩ := List.getElem?_eq_some_iff.1 h
  have hu : Tryz.prog.underlying 9 = some .string := by kernel_rfl
  rw [run_index_string (h := hu), dif_pos ⟨by omega, by simpa [ByteArray.size] using hi⟩]
  subst hc
  rfl
end Go.Proofs.YtkebngldmcoaaaaGreatDoor
